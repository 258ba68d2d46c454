"""[48] to [51]."""

import itertools
import random
import unittest

from maypoint.books import book_of
from maypoint.errors import BadDeed
from maypoint.fields import Field, one_round
from maypoint.nodes import Node
from maypoint.worlds import run_deeds
from tests import plain
from tests.policy import PlainField
from tests.support import any_values, has_list, outcome, raised, returned, untouched

HOMES = (("",), (), ("01", "1"), ())

# Deeds behind which deeds of every kind can be done in a field of these homes.
DONE = (
    ("rise", 0, 1, 9, 4), ("rise", 2, 1, 5, 3), ("bring", 0, 1, "", "report"), ("rise", 3, 0, 1, 1), ("fall", 0, 3),
    ("bring", 2, 1, "01", "report"),
)
NEXT = (
    ("rise", 0, 2, 1, 1), ("rise", 3, 2, 1000, 1), ("rise", 0, 3, 7, 10 ** 9), ("fall", 0, 1), ("fall", 1, 0), ("fall", 1, 2), ("turn", 0, 1, 1),
    ("turn", 1, 0, 4), ("turn", 1, 2, 1000), ("bring", 1, 0, "", "report"), ("bring", 1, 0, "", "ack"), ("bring", 1, 2, "", "report"),
    ("bring", 2, 1, "1", "report"), ("bring", 1, 2, "01", "ack"), ("bring", 1, 0, "01", "report"),
)
BROKEN = (
    ("rise", 0, 1, 2, 2), ("rise", 1, 0, 2, 2), ("rise", 3, 3, 2, 2), ("rise", 0, 4, 2, 2), ("rise", -1, 0, 2, 2), ("rise", 0, 2, 0, 1),
    ("rise", 0, 2, 1, 0), ("rise", 0, 2, -1, 1), ("rise", 0, 2, True, 1), ("rise", 0, 2, 1, None), ("rise", 0, 2), ("rise", 0, 2, 1),
    ("rise", 0, 2, 1, 1, 1), ("fall", 0, 2), ("fall", 0, 3), ("fall", 1, 1), ("fall", 0, 4), ("fall", 0), ("fall", 0, 1, 1), ("fall", False, 1),
    ("turn", 0, 2, 1), ("turn", 3, 0, 1), ("turn", 0, 1, 0), ("turn", 0, 1, -3), ("turn", 0, 1, True), ("turn", 0, 1), ("turn", 0, 1, 1, 1),
    ("turn", 0, 0, 1), ("turn", 0, 1, "1"), ("turn", 0, True, 1), ("bring", 0, 1, "", "report"), ("bring", 0, 1, "", "ack"),
    ("bring", 1, 3, "", "report"), ("bring", 1, 0, "0", "report"), ("bring", 1, 0, "", "mail"), ("bring", 1, 0, "", ""), ("bring", 1, 0, ""),
    ("bring", 1, 0, "", "report", 1), ("bring", True, 0, "", "report"), ("bring", 1, 0, [""], "report"), ("bring", 1, 0, "", ["report"]),
    ("bring", 1, 4, "", "report"), ("bring", [1], 0, "", "report"), ("come", 1, 0, ""), ("tell", 1, 0, "", 5, None), (), ("",), ("rises", 0, 2, 1, 1),
)


def field_of(homes, deeds):
    field = Field(homes)
    for deed in deeds:
        field.do(deed)
    return field


def told(field, many=4, stretches=("", "0", "01", "1")):
    """All that a field answers."""
    nodes = [field.node(name) for name in range(many)]
    return (field.under_way(), field.links(), field.deeds(), [field.arrows(p) for p in stretches],
            [field.past(name) for name in range(many)],
            [(node.name, node.number(p), [(x, node.told(p, x), node.book().row_states(x)) for x in node.book().near()])
             for node in nodes for p in stretches])


class Deeds(unittest.TestCase):

    def model(self):
        model = PlainField(HOMES)
        for deed in DONE:
            self.assertTrue(model.can(deed))
            model.do(deed)
        return model

    def test_what_can_be_done(self):
        for deed in NEXT:
            field, model = field_of(HOMES, DONE), self.model()
            self.assertTrue(model.can(deed), deed)
            self.assertEqual(outcome(field.do, deed=deed), returned(None), deed)
            model.do(deed)
            self.same(field, model)

    def same(self, field, model):
        self.assertEqual(outcome(field.under_way), returned(model.under_way()))
        self.assertEqual(outcome(field.links), returned(model.links()))
        self.assertEqual(outcome(field.deeds), returned(tuple(model.run)))
        for p in ("", "0", "01", "1"):
            self.assertEqual(outcome(field.arrows, p), returned(model.arrows(p)))
        for node in model.nodes:
            self.assertEqual(outcome(field.past, node.name), returned((node.name, tuple(node.events))))

    def refused(self, field, deed):
        before = told(field)
        self.assertEqual(untouched(field.do, deed), (raised(BadDeed(0)), True), deed)
        self.assertEqual(told(field), before)

    def test_each_condition_broken(self):
        field, model = field_of(HOMES, DONE), self.model()
        for deed in BROKEN:
            self.assertFalse(model.can(deed), deed)
            self.refused(field, deed)
        # What is refused bars nothing that can be done.
        for deed in NEXT[-4:]:
            self.assertEqual(outcome(field.do, deed), returned(None))

    def test_wrong_forms(self):
        field, model = field_of(HOMES, DONE), self.model()
        for deed in NEXT:
            for wrong in (deed + (1,), deed + (None,), deed[:-1], list(deed), (deed,), [deed], (deed[0].upper(),) + deed[1:], ("",) + deed[1:],
                          ("come",) + deed[1:], deed[:3] + (list(deed[3:]),), deed[::-1]):
                self.assertFalse(model.can(wrong), wrong)
                self.assertEqual(outcome(field.do, wrong), raised(BadDeed(0)), wrong)
        self.assertEqual(told(field), told(field_of(HOMES, DONE)))

    def test_another_value_in_each_place(self):
        field, model = field_of(HOMES, DONE), self.model()
        for deed in NEXT:
            for at in range(len(deed)):
                for value in any_values():
                    changed = deed[:at] + (value,) + deed[at + 1:]
                    if model.can(changed):
                        self.assertEqual(outcome(field_of(HOMES, DONE).do, changed), returned(None), changed)
                    else:
                        self.assertEqual(outcome(field.do, changed), raised(BadDeed(0)), changed)
        self.assertEqual(told(field), told(field_of(HOMES, DONE)))

    def test_any_value(self):
        field = field_of(HOMES, DONE)
        for value in any_values():
            self.refused(field, value)

    def test_new_fields(self):
        for homes in ((), ((),), (("",), ()), tuple((stretch,) for stretch in ("", "0", "1", "", "01", "", "11", "000000"))):
            field = Field(homes=homes)
            self.assertEqual((field.under_way(), field.links(), field.deeds()), ((), (), ()))
            self.assertEqual(outcome(field.arrows, stretch=""), returned((None,) * len(homes)))
            for name, own in enumerate(homes):
                node = field.node(name=name)
                self.assertIsInstance(node, Node)
                self.assertIs(field.node(name), node)
                self.assertEqual((node.name, [node.number(p) for p in own]), (name, [(0, name)] * len(own)))
                self.assertEqual(outcome(field.past, name=name), returned((name, ())))
            self.assertEqual(outcome(one_round, field, 5, ()), returned(0))
            for deed in (("rise", 0, 0, 1, 1), ("rise", 0, len(homes), 1, 1), ("rise", -1, 0, 1, 1)):
                self.refused_at_first(field, deed)

    def refused_at_first(self, field, deed):
        self.assertEqual(outcome(field.do, deed), raised(BadDeed(0)))
        self.assertEqual((field.under_way(), field.links(), field.deeds()), ((), (), ()))

    def test_both_ends_of_a_rise(self):
        """First the one that is named first rises and answers, then the other one."""
        homes = (("",), ("",), ())
        field = field_of(homes, (("rise", 1, 0, 5, 7),))
        self.assertEqual(field.deeds(), (("rise", 1, 0), ("tell", 1, 0, "", 1, (0, 1)), ("tell", 0, 1, "", 1, (0, 0))))
        self.assertEqual(field.links(), ((0, 1, 7, 5),))
        field.do(("bring", 1, 0, "", "report"))
        field.do(("rise", 2, 0, 3, 4))
        field.do(("bring", 0, 2, "", "report"))
        self.assertEqual((field.node(2).number(""), field.links()), ((3, 2), ((0, 1, 7, 5), (0, 2, 4, 3))))
        field.do(("turn", 0, 2, 50))
        self.assertEqual((field.node(2).number(""), field.links()), ((3, 2), ((0, 1, 7, 5), (0, 2, 50, 3))))
        field.do(("turn", 2, 0, 60))
        self.assertEqual((field.node(2).number(""), field.links()), ((60, 2), ((0, 1, 7, 5), (0, 2, 50, 60))))
        self.assertEqual(field.deeds()[-1:], (("tell", 2, 0, "", 2, (60, 2)),))

    def test_both_ends_of_a_fall(self):
        """All that is under way on the link falls, both ways; first the one that is named first is told."""
        for i, j in ((1, 2), (2, 1)):
            field = Field((("",), (), (), ("0",)))
            for deed in (("rise", 0, 1, 1, 1), ("rise", 1, 2, 1, 1), ("rise", 2, 3, 1, 1), ("bring", 0, 1, "", "report"),
                         ("bring", 3, 2, "0", "report"), ("bring", 1, 2, "", "report"), ("bring", 2, 1, "0", "report")):
                field.do(deed)
            self.assertEqual([way for way in field.under_way() if set(way[:2]) == {1, 2}],
                             [(1, 2, "0", "ack"), (1, 2, "0", "report"), (2, 1, "", "ack"), (2, 1, "", "report")])
            before = field.deeds()
            field.do(("fall", i, j))
            ends = {1: ("tell", 1, 0, "0", 2, None), 2: ("tell", 2, 3, "", 2, None)}
            self.assertEqual(field.deeds(), before + (("fall", i, j), ends[i], ends[j]))
            self.assertEqual([way for way in field.under_way() if set(way[:2]) == {1, 2}], [])
            self.assertEqual((field.links(), field.arrows(""), field.arrows("0")),
                             (((0, 1, 1, 1), (2, 3, 1, 1)), (None, 0, None, None), (None, None, 3, None)))
            field.do(("rise", 1, 2, 1, 1))
            self.assertEqual([way for way in field.under_way() if set(way[:2]) == {1, 2}], [(1, 2, "", "report"), (2, 1, "0", "report")])

    def test_what_is_sent_on_one_way_comes_in_order(self):
        field = field_of((("",), ()), (("rise", 0, 1, 1, 1), ("bring", 0, 1, "", "report")))
        for cost in (5, 3, 8):
            field.do(("turn", 1, 0, cost))
        for number in ((1, 1), (5, 1), (3, 1), (8, 1)):
            field.do(("bring", 1, 0, "", "report"))
            self.assertEqual(field.past(0)[1][-2], ("heard", 1, "", {1: 1, 5: 2, 3: 3, 8: 4}[number[0]], number))
        # The acknowledgement of the house's report is on a way of its own.
        self.assertEqual(field.under_way(), ((0, 1, "", "ack"), (1, 0, "", "ack")))

    def test_the_bare_run_deed_by_deed(self):
        field = field_of((("",), (), ()), (("rise", 0, 1, 9, 4), ("rise", 2, 1, 5, 3)))
        for deed, more in (
            (("bring", 0, 1, "", "report"), (("come", 0, 1, ""), ("tell", 1, 0, "", 1, (4, 1)), ("tell", 1, 2, "", 1, (4, 1)), ("ack", 1, 0, "", 1))),
            (("turn", 2, 1, 6), ()), (("bring", 1, 0, "", "ack"), (("back", 0, 1, ""),)),
            (("turn", 1, 0, 2), (("tell", 1, 0, "", 2, (2, 1)), ("tell", 1, 2, "", 2, (2, 1)))),
            (("bring", 1, 2, "", "report"), (("come", 1, 2, ""), ("tell", 2, 1, "", 1, (10, 2)), ("ack", 2, 1, "", 1))),
            (("fall", 0, 1), (("fall", 0, 1), ("tell", 1, 2, "", 3, None))),
            (("bring", 2, 1, "", "ack"), (("back", 1, 2, ""),)),
        ):
            before = field.deeds()
            field.do(deed)
            self.assertEqual(field.deeds(), before + more)


def chance_deed(chance, field, n):
    """A deed by chance, most of them such as can be done."""
    under_way = field.under_way()
    i, j = chance.sample(range(n), 2)
    roll = chance.random()
    if under_way and roll < 0.72:
        return ("bring",) + chance.choice(under_way)
    if roll < 0.9:
        return ("turn", i, j, chance.choice((1, 2, 3, 5, 9, 40, 1000)))
    if roll < 0.95:
        return ("fall", i, j)
    return ("rise", i, j, chance.randrange(1, 9), chance.randrange(1, 9))


def chance_fields(seed, many, sizes=(2, 3, 4, 6, 8)):
    """Fields by chance with no house, one and several, and most of the links that can be."""
    chance = random.Random(seed)
    for _ in range(many):
        n = chance.choice(sizes)
        homes = [[] for _ in range(n)]
        for p in chance.choice(((), ("",), ("",), ("", "0", "01"), ("", "", "1"), ("01", "01"))):
            row = chance.choice(homes)
            row.extend([p] * (p not in row))
        homes = tuple(tuple(row) for row in homes)
        field, model = Field(homes), PlainField(homes)
        for i, j in itertools.combinations(range(n), 2):
            if chance.random() < 0.7:
                deed = ("rise",) + chance.choice(((i, j), (j, i))) + (chance.randrange(1, 9), chance.randrange(1, 9))
                field.do(deed)
                model.do(deed)
        yield chance, n, field, model


class Runs(unittest.TestCase):

    stretches = ("", "0", "01", "1")

    def bare(self, field, n):
        """[49]: the deeds are a run, and tell what each node has seen and what is under way."""
        world = run_deeds(field.deeds())
        ways = [("come", i, j, p) if kind == "report" else ("back", j, i, p) for i, j, p, kind in field.under_way()]
        self.assertEqual(world.under_way(), tuple(sorted(ways)))
        self.assertEqual(world.links(), tuple(link[:2] for link in field.links()))
        for name in range(n):
            self.assertEqual(field.past(name), world.view(name))
            book, seen = field.node(name).book(), book_of(field.past(name))
            self.assertEqual((book.name, book.near()), (name, seen.near()))
            for x in seen.near():
                self.assertEqual(book.row_states(x), seen.row_states(x))

    def no_ring(self, field, n):
        """[51], for every stretch that anything was told of."""
        for p in self.stretches:
            arrows = field.arrows(p)
            for name in range(n):
                for _ in range(n):
                    name = name if name is None else arrows[name]
                self.assertIsNone(name)

    def same(self, field, model):
        self.assertEqual(field.under_way(), model.under_way())
        self.assertEqual(field.links(), model.links())
        self.assertEqual(field.deeds(), tuple(model.run))
        for p in self.stretches:
            self.assertEqual(field.arrows(p), model.arrows(p))

    def test_against_the_plain_field(self):
        refused = 0
        for chance, n, field, model in chance_fields(48, 25):
            for at in range(120):
                deed = chance_deed(chance, field, n)
                if model.can(deed):
                    self.assertEqual(outcome(field.do, deed), returned(None))
                    model.do(deed)
                else:
                    refused += 1
                    self.assertEqual(outcome(field.do, deed), raised(BadDeed(0)))
                self.same(field, model)
                self.no_ring(field, n)
                if at % 20 == 0:
                    self.bare(field, n)
            self.bare(field, n)
            self.assertEqual([model.nodes[i].faults(p) for i in range(n) for p in self.stretches], [[]] * n * 4)
        self.assertGreater(refused, 50)

    def test_arrows_close_no_ring_at_any_instant(self):
        arrows = 0
        for chance, n, field, model in chance_fields(51, 60, (4, 6, 8)):
            for _ in range(200):
                outcome(field.do, chance_deed(chance, field, n))
                self.no_ring(field, n)
                arrows = max(arrows, sum(name is not None for name in field.arrows("")))
        self.assertEqual(arrows, 7)

    def test_targets_are_let_by_all_that_was_seen(self):
        """[47], by the words of [6] on the past of the bare run, for one stretch alone."""
        for chance, n, field, model in chance_fields(52, 12, (3, 5)):
            for _ in range(60):
                outcome(field.do, chance_deed(chance, field, n))
            for name in range(n):
                for p in self.stretches:
                    events = [event for event in field.past(name)[1] if len(event) < 3 or event[2] == p]
                    let = [m for m in plain.near(events) if plain.may(events, p.ljust(6, "0"), m)]
                    target = field.node(name).target(p)
                    self.assertTrue(target in let if target is not None else not let or field.node(name).number(p) == (0, name))

    def test_asking_changes_nothing(self):
        for chance, n, field, model in chance_fields(53, 6, (3, 4)):
            for _ in range(40):
                before = told(field, n)
                self.assertEqual(told(field, n), before)
                self.assertFalse(has_list(before[:3]) or has_list(tuple(before[3])) or has_list(tuple(before[4])))
                outcome(field.do, chance_deed(chance, field, n))


class Rounds(unittest.TestCase):

    def settled(self, homes, deeds):
        field, model = Field(homes), PlainField(homes)
        for deed in deeds:
            field.do(deed)
            model.do(deed)
        return field, model

    def test_the_places_are_gone_through_once(self):
        deeds = (("rise", 0, 1, 9, 4), ("rise", 2, 1, 5, 3), ("bring", 0, 1, "", "report"))
        for turn, order in ((0, 0), (1, 1), (2, 2), (3, 0), (10 ** 6, 1)):
            field, model = self.settled((("",), (), ()), deeds)
            ways = field.under_way()
            self.assertEqual(len(ways), 3)
            before = field.deeds()
            self.assertEqual(outcome(one_round, field=field, turn=turn, between=()), returned(3))
            came = [deed for deed in field.deeds()[len(before):] if deed[0] in ("come", "back")]
            bare = [("come", i, j, p) if kind == "report" else ("back", j, i, p) for i, j, p, kind in ways[order:] + ways[:order]]
            self.assertEqual(came, bare)

    def test_a_way_has_a_place_for_each_letter(self):
        field, model = self.settled((("",), ()), (("rise", 0, 1, 1, 1), ("bring", 0, 1, "", "report"), ("turn", 1, 0, 5), ("turn", 1, 0, 7)))
        self.assertEqual(field.under_way(), ((1, 0, "", "ack"), (1, 0, "", "report")))
        # Four places; three brings between them take letters of the round away ahead of their places.
        bring = ("bring", 1, 0, "", "report")
        self.assertEqual(one_round(field, 0, (bring, bring, bring)), 2)
        self.assertEqual([event[3] for event in field.past(0)[1] if event[0] == "heard"], [1, 2, 3])

    def test_what_is_sent_in_the_round_is_not_brought_by_it(self):
        field, model = self.settled((("",), ()), (("rise", 0, 1, 1, 1), ("bring", 0, 1, "", "report")))
        self.assertEqual(field.under_way(), ((1, 0, "", "ack"), (1, 0, "", "report")))
        # The turn puts another report on the way that the round goes to next.
        self.assertEqual(one_round(field, 0, (("turn", 1, 0, 5),)), 2)
        self.assertEqual(field.under_way(), ((0, 1, "", "ack"), (1, 0, "", "report")))
        self.assertEqual(one_round(field, 0, ()), 2)
        self.assertEqual(field.under_way(), ((0, 1, "", "ack"),))
        self.assertEqual((one_round(field, 0, ()), one_round(field, 7, ())), (1, 0))

    def test_a_letter_that_took_the_place_of_a_fallen_one(self):
        """The link falls and rises again: what is sent then, on the same way, is not of the round."""
        deeds = (("rise", 0, 1, 1, 1), ("rise", 0, 2, 1, 1), ("rise", 0, 3, 1, 1))
        field, model = self.settled((("",), (), (), ()), deeds)
        places = tuple((0, j, "", "report") for j in (1, 2, 3))
        self.assertEqual(field.under_way(), places)
        self.assertEqual(one_round(field, 0, (("fall", 0, 3), ("rise", 0, 3, 1, 1))), 2)
        self.assertIn(places[2], field.under_way())
        field, model = self.settled((("",), (), (), ()), deeds)
        self.assertEqual(one_round(field, 2, (("fall", 0, 2), ("rise", 0, 2, 1, 1))), 2)
        self.assertIn(places[1], field.under_way())
        # A link that rises again ahead of its place, and one that falls ahead of its place for good.
        field, model = self.settled((("",), (), (), ()), deeds)
        self.assertEqual(one_round(field, 1, (("fall", 1, 0), ("fall", 3, 0))), 2)
        self.assertEqual(field.under_way(), ((2, 0, "", "ack"), (2, 0, "", "report")))

    def test_values_that_are_refused_and_left_over(self):
        field, model = self.settled((("",), ()), (("rise", 0, 1, 1, 1),))
        wrong = (None, ("rise", 0, 1, 1, 1), ["turn", 0, 1, 2], ("bring", 1, 0, "", "ack"), True, ("fall", 0, 0))
        self.assertEqual(one_round(field, 3, wrong + (("turn", 1, 0, 6), ("bring", 1, 0, "", "report"), ("turn", 0, 1, 8))), 1)
        self.assertEqual((field.links(), field.past(0)[1][-2]), (((0, 1, 8, 6),), ("heard", 1, "", 1, (1, 1))))
        # No place at all: all of them are done or passed over.
        field = Field((("",), ()))
        self.assertEqual(one_round(field, 10 ** 6, (("fall", 0, 1), ("rise", 1, 0, 2, 3), None, ("bring", 0, 1, "", "report"))), 0)
        self.assertEqual((field.links(), field.arrows("")), (((0, 1, 3, 2),), (None, 0)))
        self.assertEqual(field.under_way(), ((1, 0, "", "ack"), (1, 0, "", "report")))

    def chance_round(self, chance, n, field):
        between = []
        for _ in range(chance.choice((0, 1, 3, 8, 60))):
            between.append(chance.choice(any_values()) if chance.random() < 0.1 else chance_deed(chance, field, n))
        return chance.choice((0, 1, 5, 77, 10 ** 6)), tuple(between)

    def test_against_the_plain_field(self):
        fallen = passed = 0
        for chance, n, field, model in chance_fields(50, 25):
            for _ in range(10):
                turn, between = self.chance_round(chance, n, field)
                came, old = model.one_round(turn, between)
                call, same = outcome(one_round, field, turn, between), between
                self.assertEqual(call, returned(came))
                self.assertEqual(same, between)
                self.assertEqual(field.deeds(), tuple(model.run))
                self.assertEqual((field.under_way(), field.links()), (model.under_way(), model.links()))
                # Behind it nothing is under way of what was when it began.
                left = [letter for way in model.ways.values() for letter in way]
                self.assertFalse(any(letter is other for letter in left for other in old))
                passed += came < len(old)
                fallen += bool(between) and came == len(old)
        self.assertGreater(min(fallen, passed), 15)

    def test_a_field_comes_to_rest(self):
        for homes in ((("",), (), (), ()), ((), (), (), ()), (("",), ("",), (), ("0",))):
            field = Field(homes)
            for i, j in itertools.combinations(range(4), 2):
                field.do(("rise", i, j, 3 + i, 2 + j))
            rounds = [one_round(field, turn, ()) for turn in range(60)]
            self.assertEqual((rounds[-1], field.under_way()), (0, ()))

    def test_sizes(self):
        """Eight nodes, all links among them, 500 deeds and 200 rounds."""
        chance = random.Random(52)
        field = Field((("", "0"), (), ("01",), (), ("",), (), ("1", "111"), ()))
        for i, j in itertools.combinations(range(8), 2):
            field.do(("rise", i, j, chance.randrange(1, 1001), chance.randrange(1, 1001)))
        for _ in range(300):
            outcome(field.do, chance_deed(chance, field, 8))
        for turn in range(200):
            one_round(field, turn * 5000, (chance_deed(chance, field, 8), ("turn", 0, 1, turn + 1)) if turn < 100 else ())
        self.assertEqual(field.under_way(), ())
        world = run_deeds(field.deeds())
        for name in range(8):
            self.assertEqual(world.view(name), field.past(name))
