"""[52] to [54]."""

import random
import unittest

from maypoint.errors import Refused
from maypoint.fields import Field, one_round
from maypoint.waits import held_reports, wait_row, wait_row_serves
from tests import bare, shapes
from tests.support import any_values, has_list, outcome, raised, returned, untouched


def waiting_row(n):
    """A row of nodes in which each holds a report of the one ahead, and only the last one's answer is under way."""
    field = Field((("",),) + ((),) * (n - 1))
    for i in range(n - 1):
        field.do(("rise", i, i + 1, 1, 4))
    while field.under_way():
        one_round(field, 0, ())
    field.do(("turn", 1, 0, 40))
    for i in range(1, n - 1):
        field.do(("bring", i, i + 1, "", "report"))
        for way in ((i, i - 1, "", "report"), (i - 1, i, "", "ack")):
            field.do(("bring",) + way)
    return field


def all_triples(field):
    names = range(len(field.arrows("")))
    return [(x, i, p) for x in names for i in names for p in shapes.stretches_told(field)]


class Held(unittest.TestCase):

    def test_against_the_bare_run(self):
        held = 0
        for chance, n, field in shapes.instants(52, 60, 40):
            rows = bare.bare(field).held()
            self.assertEqual(outcome(held_reports, field), returned(rows))
            held += len(rows)
        self.assertGreater(held, 500)

    def test_nothing_is_held(self):
        for homes in ((), ((),), (("",), ())):
            self.assertEqual(outcome(held_reports, field=Field(homes)), returned(()))
        field = Field((("",), ()))
        field.do(("rise", 0, 1, 1, 1))
        self.assertEqual(held_reports(field), ())
        field.do(("bring", 0, 1, "", "report"))
        # It came and was acknowledged at once; that the acknowledgement is under way does not matter.
        self.assertEqual((held_reports(field), (1, 0, "", "ack") in field.under_way()), ((), True))

    def test_a_link_that_falls_and_rises_again(self):
        field = waiting_row(4)
        self.assertEqual(held_reports(field), ((2, 1, ""), (3, 2, "")))
        field.do(("fall", 2, 3))
        self.assertEqual(held_reports(field), ())
        field.do(("rise", 2, 3, 1, 1))
        self.assertEqual(held_reports(field), ())


class Rows(unittest.TestCase):

    def test_a_row_for_each_that_is_held(self):
        many = {}
        for chance, n, field in shapes.instants(53, 80, 40, turns=0.35):
            held = bare.bare(field).held()
            before = field.deeds()
            for x, i, p in held:
                row = wait_row(field, x, i, p)
                self.assertTrue(bare.row_serves(field, held, x, i, p, row), (field.deeds(), row))
                self.assertFalse(has_list(row))
                self.assertIs(wait_row_serves(field, x, i, p, row), True)
                # All its nodes but the last one are unlike.
                self.assertEqual(len(set(row[0][:-1])), len(row[0]) - 1)
                many[len(row[0])] = many.get(len(row[0]), 0) + 1
            self.assertEqual(field.deeds(), before)
        self.assertGreater(many[2], 800)

    def test_a_row_goes_on_by_its_own_stretch(self):
        """Two hold what the last node told for the stretch; a third one, of a lesser name, what it told for another stretch."""
        field = Field((("", "0"), ("",)) + ((),) * 6)
        for link in ((0, 5, 1, 1), (5, 6, 1, 1), (6, 7, 1, 1), (6, 4, 1, 1), (6, 1, 1000, 1), (1, 2, 1, 1)):
            field.do(("rise",) + link)
        while field.under_way():
            one_round(field, 0, ())
        field.do(("turn", 5, 0, 40))
        for way in ((5, 0, "", "report"), (0, 5, "", "ack"), (5, 6, "", "report"), (6, 7, "", "report"), (6, 4, "", "report"), (6, 1, "", "report"),
                    (1, 6, "", "ack"), (6, 5, "", "report"), (5, 6, "", "ack"), (5, 6, "0", "report"), (6, 1, "0", "report")):
            field.do(("bring",) + way)
        self.assertEqual(held_reports(field), ((1, 6, "0"), (4, 6, ""), (6, 5, ""), (6, 5, "0"), (7, 6, "")))
        row = wait_row(field, 6, 5, "")
        self.assertIn(row, (((5, 6, 4), (4, 6, "", "report")), ((5, 6, 7), (7, 6, "", "report"))))
        self.assertIs(bare.row_serves(field, held_reports(field), 6, 5, "", row), True)

    def test_refused_if_nothing_is_held(self):
        for chance, n, field in shapes.instants(54, 12, 8):
            held = bare.bare(field).held()
            for x, i, p in all_triples(field):
                if (x, i, p) not in held:
                    self.assertEqual(outcome(wait_row, field, x, i, p), raised(Refused((x, i, p))))
                    self.assertIs(wait_row_serves(field, x, i, p, ((i, x), (x, i, p, "report"))), False)
        self.assertEqual(outcome(wait_row, field=field, x=31, i=0, stretch="01"), raised(Refused((31, 0, "01"))))

    def test_long_rows(self):
        for n in range(3, 9):
            field = waiting_row(n)
            self.assertEqual(field.under_way(), ((n - 1, n - 2, "", "report"),))
            self.assertEqual(held_reports(field), tuple((x, x - 1, "") for x in range(2, n)))
            for x in range(2, n):
                # There is no other row, with one letter under way.
                row = (tuple(range(x - 1, n)), (n - 1, n - 2, "", "report"))
                self.assertEqual(outcome(wait_row, field=field, x=x, i=x - 1, stretch=""), returned(row))
                self.assertIs(wait_row_serves(field=field, x=x, i=x - 1, stretch="", row=row), True)
            field.do(("bring", n - 1, n - 2, "", "report"))
            # The answer sets one free behind the other, as its acknowledgements come.
            while field.under_way():
                one_round(field, 0, ())
            self.assertEqual(held_reports(field), ())


def changed_row(chance, field, row):
    """A row of which one part is another one."""
    nodes, letter = row
    at, name = chance.randrange(len(nodes)), chance.randrange(len(field.arrows("")))
    other = chance.choice(field.under_way())
    return chance.choice((
        (nodes[:at] + nodes[at + 1:], letter), (nodes[:at] + nodes[at:at + 1] + nodes[at:], letter), (nodes[::-1], letter),
        (nodes + (name,), letter), (nodes[:at] + (name,) + nodes[at + 1:], letter), (nodes[:at] + (name,) + nodes[at:], letter),
        (nodes[:-1], letter), (nodes, other), (nodes + (name,), other), (nodes, letter[:3] + ({"ack": "report", "report": "ack"}[letter[3]],)),
        (nodes, (letter[1], letter[0]) + letter[2:]), (nodes, letter[:2] + ("0" + letter[2],) + letter[3:]), (nodes, letter[:3]),
        (nodes, letter + letter[:1]), (nodes, list(letter)), (list(nodes), letter), [nodes, letter], (nodes,), (nodes, letter, letter),
        (nodes[:at] + (nodes[at] == 1,) + nodes[at + 1:], letter), (nodes, (letter[0] == 1,) + letter[1:]),
        (nodes, letter[:1] + (letter[1] == 1,) + letter[2:]), (letter, nodes), (nodes, None), ((), letter), (nodes[:1], letter),
    ))


class Serves(unittest.TestCase):

    def same(self, field, x, i, p, row):
        told = bare.row_serves(field, bare.bare(field).held(), x, i, p, row)
        self.assertEqual(outcome(wait_row_serves, field, x, i, p, row), returned(told), (field.deeds(), x, i, p, row))
        return told

    def test_rows_with_one_part_changed(self):
        met = {True: 0, False: 0}
        for chance, n, field in shapes.instants(55, 60, 40, turns=0.35):
            for x, i, p in chance.sample(held_reports(field), min(2, len(held_reports(field)))):
                row = wait_row(field, x, i, p)
                for _ in range(4):
                    met[self.same(field, x, i, p, changed_row(chance, field, row))] += 1
        self.assertGreater(min(met.values()), 30, met)

    def test_long_rows_with_one_part_changed(self):
        chance = random.Random(56)
        met = {True: 0, False: 0}
        for n in (4, 5, 8):
            for more in (0, 1):
                field = waiting_row(n)
                # Another letter at either end, and one that the node in the middle waits for.
                for deed in (("turn", 2, 1, 7), ("turn", n - 1, n - 2, 9))[:more]:
                    field.do(deed)
                for x in range(2, n):
                    row = (tuple(range(x - 1, n)), (n - 1, n - 2, "", "report"))
                    self.assertTrue(self.same(field, x, x - 1, "", row))
                    for _ in range(40):
                        met[self.same(field, x, x - 1, "", changed_row(chance, field, row))] += 1
                    for at in range(2, n + 1):
                        for way in field.under_way():
                            self.same(field, x, x - 1, "", (row[0][:at], way))
        self.assertGreater(min(met.values()), 5, met)

    def test_every_letter_of_every_short_row(self):
        """Of the other kind, of another stretch, of other nodes, and one that is not under way."""
        met = {True: 0, False: 0}
        for chance, n, field in shapes.instants(58, 20, 16, sizes=(3, 4), turns=0.35):
            ways = [(one, other, p, kind) for one in range(n) for other in range(n)
                    for p in shapes.stretches_told(field) for kind in ("report", "ack", "mail")]
            for x, i, p in held_reports(field):
                for way in ways:
                    met[self.same(field, x, i, p, ((i, x), way))] += 1
        self.assertGreater(min(met.values()), 50, met)

    def test_three_nodes_of_whom_each_holds_what_the_one_ahead_told(self):
        """The middle one must have the one ahead as its target."""
        met = {}
        for chance, n, field in shapes.instants(59, 150, 30, sizes=(4, 5, 6), turns=0.4, falls=0.01):
            held = held_reports(field)
            for x, i, p in held:
                for y in [y for y, name, q in held if (name, q) == (x, p)]:
                    kind = field.node(x).target(p) == i
                    for way in field.under_way():
                        told = self.same(field, x, i, p, ((i, x, y), way))
                        met[kind, told] = met.get((kind, told), 0) + 1
        self.assertGreater(min(met.get((True, told), 0) for told in (True, False)), 5, met)

    def test_a_middle_node_with_another_target(self):
        """Node 1 holds what 3 told, for its target is 2; node 4 holds what 1 told."""
        field = Field((("",), (), (), (), (), ()))
        for link in ((0, 2, 1, 10), (0, 3, 1, 2), (1, 2, 1, 1), (1, 3, 1000, 1000), (1, 4, 1, 1), (4, 5, 1, 1)):
            field.do(("rise",) + link)
        while field.under_way():
            one_round(field, 0, ())
        field.do(("turn", 2, 0, 20))
        # What was told to node 3 stays under way; all others have acknowledged the new numbers.
        for _ in range(40):
            for way in field.under_way():
                if 3 not in way[:2]:
                    field.do(("bring",) + way)
        for deed in (("turn", 1, 2, 11), ("bring", 1, 4, "", "report"), ("turn", 3, 0, 15), ("bring", 3, 1, "", "report")):
            field.do(deed)
        self.assertEqual((held_reports(field), field.arrows("")), (((1, 3, ""), (4, 1, "")), (None, 2, 0, 0, 1, 4)))
        self.assertEqual(wait_row(field, 1, 3, ""), ((3, 1), (1, 3, "", "report")))
        for way in field.under_way():
            for nodes in ((3, 1), (3, 1, 4), (1, 4), (1, 4, 5), (1, 4, 1), (3, 1, 3)):
                for x, i in ((1, 3), (4, 1)):
                    told = self.same(field, x, i, "", (nodes, way))
                    self.assertFalse(told and len(nodes) > 2)

    def test_any_value(self):
        field = waiting_row(5)
        row = wait_row(field, 2, 1, "")
        for value in any_values():
            self.assertEqual(untouched(wait_row_serves, field, 2, 1, "", value)[0], returned(False))
            for at in range(2):
                self.same(field, 2, 1, "", row[:at] + (value,) + row[at + 1:])
                for place in range(len(row[at])):
                    part = row[at][:place] + (value,) + row[at][place + 1:]
                    self.same(field, 2, 1, "", row[:at] + (part,) + row[at + 1:])

    def test_true_is_no_name(self):
        field = waiting_row(4)
        way = (3, 2, "", "report")
        self.assertIs(wait_row_serves(field, 2, 1, "", ((1, 2, 3), way)), True)
        self.assertIs(wait_row_serves(field, 2, 1, "", ((True, 2, 3), way)), False)
        field = Field((("",), (), ()))
        for deed in (("rise", 1, 2, 1, 1), ("rise", 0, 2, 1, 1)):
            field.do(deed)
        while field.under_way():
            one_round(field, 0, ())
        field.do(("turn", 2, 0, 50))
        field.do(("bring", 2, 1, "", "report"))
        self.assertEqual(held_reports(field), ((1, 2, ""),))
        self.assertIs(wait_row_serves(field, 1, 2, "", ((2, 1), (1, 2, "", "report"))), True)
        self.assertIs(wait_row_serves(field, 1, 2, "", ((2, True), (1, 2, "", "report"))), False)
        self.assertIs(wait_row_serves(field, 1, 2, "", ((2, 1), (True, 2, "", "report"))), False)


class Rounds(unittest.TestCase):

    def due(self, field):
        """Each held report with the serial that was heard last."""
        read = bare.bare(field)
        return [(x, i, p, read.came(i, x, p)[-1][0]) for x, i, p in held_reports(field)]

    def check(self, field, due, ahead):
        """[54], by the deeds since then."""
        later = field.deeds()[ahead:]
        for x, i, p, serial in due:
            fallen = any(deed[0] == "fall" and {x, i} == set(deed[1:3]) for deed in later)
            acked = any(deed[:4] == ("ack", x, i, p) and deed[4] >= serial for deed in later)
            self.assertTrue(fallen or acked, (field.deeds(), x, i, p, serial))

    def play(self, chance, n, field, slow):
        """2 n rounds with whatever may go on within them."""
        for _ in range(2 * n):
            between = [shapes.deed_by_chance(chance, field, n, 0.03, 0.5, slow) for _ in range(chance.choice((0, 2, 10, 30)))]
            links = [link[:2] for link in field.links()]
            # Costs that climb again and again, all along the links.
            climbing = [("turn",) + chance.choice((pair, pair[::-1])) + (chance.randint(1, 1000),) for pair in links]
            one_round(field, chance.randrange(100), tuple(between + climbing * chance.randrange(2)))

    def test_each_is_acknowledged_in_time(self):
        waited = 0
        for seed in range(3):
            for chance, n, field in shapes.instants(540 + seed, 12, 4, turns=0.4):
                due, ahead = self.due(field), len(field.deeds())
                waited += len(due)
                self.play(chance, n, field, chance.choice((None, "ack")))
                self.check(field, due, ahead)
        self.assertGreater(waited, 60)

    def test_long_rows_in_time(self):
        chance = random.Random(541)
        for n in range(3, 9):
            for quiet in (True, False):
                field = waiting_row(n)
                due, ahead = self.due(field), len(field.deeds())
                self.assertEqual(len(due), n - 2)
                if quiet:
                    for _ in range(2 * n):
                        one_round(field, chance.randrange(100), ())
                else:
                    self.play(chance, n, field, None)
                self.check(field, due, ahead)
