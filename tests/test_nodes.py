"""[43] to [47]."""

import random
import unittest

from maypoint.books import book_of
from maypoint.errors import Refused
from maypoint.nodes import Node
from tests import plain
from tests.policy import PlainNode
from tests.support import has_list, outcome, raised, returned

EVERY = [""] + ["{:b}".format(number)[1:] for number in range(2, 128)]


def report(serial, *number, p=""):
    return ("report", p, serial, number or None)


def ack(k, p=""):
    return ("ack", p, k)


def told_by(node, names, stretches):
    """All that a node answers."""
    book = node.book()
    return ([(node.name, node.target(p), node.number(p)) for p in stretches],
            [outcome(node.told, p, x) for p in stretches for x in names],
            [(x, book.row_states(x)) for x in book.near()])


class Play:
    """A node and a plain reading of it, with neighbours that tell and acknowledge by chance."""

    def __init__(self, case, chance, name, homes, names, stretches):
        self.case, self.chance, self.names, self.stretches = case, chance, names, stretches
        self.node, self.model = Node(name, homes), PlainNode(name, homes)
        self.most = chance.choice((3, 8, 30))
        self.met = {}

    def event(self):
        """An event by chance that may come: its kind and what it takes."""
        model, chance = self.model, self.chance
        x, p = chance.choice(self.names), chance.choice(self.stretches)
        cost = chance.randrange(1, self.most)
        if x not in model.costs:
            return ("rises", x, cost)
        roll = chance.random()
        if roll < 0.04:
            return ("falls", x)
        if roll < 0.12:
            return ("turns", x, cost)
        came, told = model.row(p, x, "in"), model.row(p, x, "out")
        if roll < 0.5 and told.first < told.last:
            return ("comes", x, ("ack", p, chance.choice((told.first + 1, told.last, chance.randrange(told.first, told.last) + 1))))
        serial = came.last + chance.choice((1, 1, 1, 4))
        number = (chance.randrange(self.most + 2),) + (0,) * chance.choice((0, 0, 1)) + (x,)
        return ("comes", x, ("report", p, serial, None if chance.random() < 0.25 else number))

    def step(self):
        self.take(self.event())

    def take(self, event):
        letters = getattr(self.model, event[0])(*event[1:])
        self.case.assertEqual(outcome(getattr(self.node, event[0]), *event[1:]), returned(letters), event)
        self.note(event, letters)
        self.same()

    def note(self, event, letters):
        self.met[event[0]] = True
        for x, letter in letters:
            if letter[0] == "ack":
                row, target = self.model.row(letter[1], x, "in"), self.model.targets.get(letter[1])
                self.met["in part" if letter[2] < row.last else "whole", target is not None and x == target] = True

    def same(self):
        """The node answers all as the plain reading does, and [47] holds."""
        for p in self.stretches:
            self.case.assertEqual(outcome(self.node.target, p), returned(self.model.targets.get(p)))
            self.case.assertEqual(outcome(self.node.number, p), returned(self.model.number(p)))
            for x in self.model.near():
                told = self.model.row(p, x, "out").newest()
                self.case.assertEqual(outcome(self.node.told, p, x), returned(told))
                self.case.assertEqual(told, self.model.number(p))
                if self.model.waiting(p, x):
                    self.met["waits", x == self.model.targets.get(p)] = True
            self.case.assertEqual(self.model.faults(p), [])
            t = self.model.targets.get(p)
            if t is not None:
                self.met["target", self.model.h(p, t) is None] = True

    def same_book(self):
        book, events = self.node.book(), self.model.events
        self.case.assertEqual((book.name, book.near()), (self.node.name, plain.near(events)))
        seen = book_of((self.node.name, tuple(events)))
        for x in book.near():
            self.case.assertEqual(book.row_states(x), seen.row_states(x))
            self.case.assertEqual(book.row_states(x), plain.row_states(events, x))


class Climb(Play):
    """One neighbour is much nearer than the others, all numbers climb, and the last one acknowledges seldom."""

    def event(self):
        model, chance = self.model, self.chance
        x, p = chance.choice(self.names), chance.choice(self.stretches)
        if x not in model.costs:
            return ("rises", x, chance.randrange(1, 4) + 900 * (x != self.names[0]))
        if chance.random() < 0.004:
            return ("falls", x)
        came, told, lazy = model.row(p, x, "in"), model.row(p, x, "out"), x == self.names[-1]
        if told.first < told.last and chance.random() < (0.15 if lazy else 0.8):
            return ("comes", x, ("ack", p, told.first + 1 if lazy else told.last))
        last = came.newest() or (4 * (x == self.names[0]),)
        first = 0 if chance.random() < 0.05 else max(0, last[0] + chance.choice((-1, 1, 2, 3)))
        return ("comes", x, ("report", p, came.last + 1, (first, x)))


class Sequences(unittest.TestCase):
    """Rows of events of which every letter is told by hand."""

    def play(self, node, rows):
        for call, arguments, letters in rows:
            self.assertEqual(outcome(getattr(node, call), *arguments), returned(letters), (call, arguments))

    def test_a_target_is_left_only_for_a_lesser_sum(self):
        node = Node(5, ())
        self.play(node, (
            ("rises", (1, 3), ()), ("rises", (2, 1), ()),
            ("comes", (2, report(1, 4, 2)), ((1, report(1, 5, 5)), (2, report(1, 5, 5)), (2, ack(1)))),
            # The same sum, and a lesser name: the target stays.
            ("comes", (1, report(1, 2, 1)), ((1, ack(1)),)),
            # A lesser sum.
            ("comes", (1, report(2, 1, 1)), ((1, report(2, 4, 5)), (2, report(2, 4, 5)), (1, ack(2)))),
        ))
        self.assertEqual((node.target(""), node.number(""), node.told("", 1), node.told("", 2)), (1, (4, 5), (4, 5), (4, 5)))

    def test_of_the_same_sum_the_least_name(self):
        for falls, sums, target in ((3, ((1, 6), (2, 6), (4, 6)), 1), (3, ((1, 7), (2, 6), (4, 6)), 2), (3, ((1, 7), (2, 7), (4, 6)), 4)):
            node = Node(5, ())
            for x in (4, 3, 2, 1):
                node.rises(x, 1)
            node.comes(3, report(1, 0, 3))
            for x, total in sums:
                node.turns(x, total)
                node.comes(x, report(1, 0, x))
                node.comes(x, ack(1))
            self.assertEqual(node.target(""), 3)
            node.falls(falls)
            self.assertEqual((node.target(""), node.number("")), (target, (min(total for x, total in sums), 5)))

    def test_a_cost_that_turns_is_told_at_once(self):
        node = Node(5, ())
        self.play(node, (
            ("rises", (1, 3), ()), ("rises", (2, 9), ()),
            ("comes", (1, report(1, 0, 1)), ((1, report(1, 3, 5)), (2, report(1, 3, 5)), (1, ack(1)))),
            ("turns", (2, 5), ()), ("turns", (1, 3), ()),
            ("turns", (1, 8), ((1, report(2, 8, 5)), (2, report(2, 8, 5)))),
            ("comes", (2, report(3, 0, 2)), ((1, report(3, 5, 5)), (2, report(3, 5, 5)), (2, ack(3)))),
            ("turns", (1, 4), ((1, report(4, 4, 5)), (2, report(4, 4, 5)))),
            ("turns", (2, 1), ((1, report(5, 1, 5)), (2, report(5, 1, 5)))),
        ))
        self.assertEqual(node.target(""), 2)

    def test_a_neighbour_that_rises_is_told_the_numbers_there_are(self):
        node = Node(5, ("01", ""))
        self.play(node, (
            ("rises", (1, 3), ((1, report(1, 0, 5)), (1, report(1, 0, 5, p="01")))),
            ("comes", (1, report(1, 2, 1, p="1")), ((1, report(1, 5, 5, p="1")), (1, ack(1, p="1")))),
            ("comes", (1, report(1, 2, 1, p="0")), ((1, report(1, 5, 5, p="0")), (1, ack(1, p="0")))),
            ("comes", (1, report(2, p="0")), ((1, report(2, p="0")),)),
            ("rises", (2, 3), ((2, report(1, 0, 5)), (2, report(1, 5, 5, p="1")), (2, report(1, 0, 5, p="01")))),
            ("falls", (2,), ()),
            ("rises", (2, 3), ((2, report(1, 0, 5)), (2, report(1, 5, 5, p="1")), (2, report(1, 0, 5, p="01")))),
        ))

    def test_a_house_has_no_target_and_acknowledges_all(self):
        node = Node(5, ("",))
        self.play(node, (
            ("rises", (1, 3), ((1, report(1, 0, 5)),)),
            ("comes", (1, report(1, 0, 1)), ((1, ack(1)),)), ("comes", (1, report(7)), ((1, ack(7)),)),
            ("comes", (1, report(9, 8, 1)), ((1, ack(9)),)), ("comes", (1, ack(1)), ()), ("turns", (1, 1), ()),
            ("comes", (1, report(1, 0, 1, p="0")), ((1, report(1, 1, 5, p="0")), (1, ack(1, p="0")))),
        ))
        self.assertEqual((node.target(""), node.number(""), node.target("0"), node.number("1")), (None, (0, 5), 1, None))

    def test_a_target_that_tells_none_is_kept_as_long_as_somebody_needs_it(self):
        node = Node(5, ())
        self.play(node, (
            ("rises", (1, 3), ()), ("rises", (2, 9), ()),
            ("comes", (1, report(1, 0, 1)), ((1, report(1, 3, 5)), (2, report(1, 3, 5)), (1, ack(1)))),
            ("comes", (1, report(2)), ((1, report(2)), (2, report(2)))),
            ("comes", (1, ack(1)), ()),
            ("comes", (1, ack(2)), ()),
        ))
        self.assertEqual((node.target(""), node.number("")), (1, None))
        self.play(node, (("comes", (2, ack(2)), ((1, ack(2)),)),))
        self.assertEqual((node.target(""), node.number("")), (None, None))

    def test_a_target_that_tells_none_is_left_for_any_sum(self):
        node = Node(5, ())
        self.play(node, (
            ("rises", (1, 3), ()), ("rises", (2, 900), ()),
            ("comes", (1, report(1, 0, 1)), ((1, report(1, 3, 5)), (2, report(1, 3, 5)), (1, ack(1)))),
            ("comes", (1, report(2)), ((1, report(2)), (2, report(2)))),
            # Below what is told and may still count, so it is let: far as it is, it is taken.
            ("comes", (2, report(4, 2, 2)), ((1, report(3, 902, 5)), (2, report(3, 902, 5)), (2, ack(4)), (1, ack(2)))),
        ))
        self.assertEqual(node.target(""), 2)

    def test_who_is_not_let_cannot_be_taken(self):
        node = Node(5, ())
        self.play(node, (
            ("rises", (1, 3), ()), ("rises", (2, 1), ()),
            ("comes", (1, report(1, 0, 1)), ((1, report(1, 3, 5)), (2, report(1, 3, 5)), (1, ack(1)))),
            ("turns", (1, 50), ((1, report(2, 50, 5)), (2, report(2, 50, 5)))),
            # 2 would make 11, but v of both is still (3, 5): 2 itself is up.
            ("comes", (2, report(1, 10, 2)), ((2, ack(1)),)),
            ("comes", (2, ack(2)), ((1, report(3, 11, 5)), (2, report(3, 11, 5)))),
        ))
        self.assertEqual(node.target(""), 2)

    def test_who_would_come_to_be_up_waits(self):
        node = Node(5, ())
        each = (1, 2, 3)
        self.play(node, (
            ("rises", (1, 3), ()), ("rises", (2, 900), ()), ("rises", (3, 900), ()),
            ("comes", (1, report(1, 4, 1)), tuple((x, report(1, 7, 5)) for x in each) + ((1, ack(1)),)),
            ("comes", (2, report(1, 1, 2)), ((2, ack(1)),)),
            # The target climbs; 2, which is not up, need not have heard of it.
            ("comes", (1, report(5, 9, 1)), tuple((x, report(2, 12, 5)) for x in each)),
            ("comes", (1, ack(2)), ()), ("comes", (3, ack(2)), ((1, ack(5)),)),
            # By (7, 5) it would come to be up, and that is below (9, 1).
            ("comes", (2, report(2, 8, 2)), ()), ("comes", (2, report(3, 6, 2)), ((2, ack(3)),)),
            ("comes", (2, report(4, 20, 2)), ()), ("comes", (2, report(5, 6, 9, 2)), ((2, ack(5)),)), ("comes", (2, report(6, 20, 2)), ()),
            # As long as 2 waits, the target is acknowledged only below (7, 5).
            ("comes", (1, report(6, 10, 1)), tuple((x, report(3, 13, 5)) for x in each)),
            ("comes", (3, ack(3)), ()), ("comes", (1, ack(3)), ()),
            ("comes", (2, ack(2)), ((1, ack(6)), (2, ack(6)))),
        ))
        self.assertEqual((node.target(""), node.number(""), node.book().up("000000")), (1, (13, 5), (2, 3)))

    def test_the_target_is_acknowledged_in_part(self):
        node = Node(5, ())
        self.play(node, (
            ("rises", (1, 1), ()), ("rises", (2, 1), ()),
            ("comes", (1, report(1, 4, 1)), ((1, report(1, 5, 5)), (2, report(1, 5, 5)), (1, ack(1)))),
            # 2 is up by (5, 5): the target's (5, 0, 1) is below it, its (5, 9, 1) and (8, 1) are not.
            ("comes", (1, report(2, 8, 1)), ((1, report(2, 9, 5)), (2, report(2, 9, 5)))),
            ("comes", (1, report(3, 5, 0, 1)), ((1, report(3, 6, 5)), (2, report(3, 6, 5)), (1, ack(3)))),
            ("comes", (1, report(6, 5, 9, 1)), ()),
            ("comes", (1, report(7, 8, 1)), ((1, report(4, 9, 5)), (2, report(4, 9, 5)))),
            ("comes", (1, report(9, 9, 7, 1)), ((1, report(5, 10, 5)), (2, report(5, 10, 5)))),
            ("comes", (1, ack(3)), ()), ("comes", (2, ack(2)), ((1, ack(6)),)),
            ("comes", (2, ack(3)), ()), ("comes", (2, ack(4)), ()), ("comes", (1, ack(4)), ((1, ack(7)),)),
            ("comes", (1, ack(5)), ()), ("comes", (2, ack(5)), ((1, ack(9)),)),
        ))

    def test_another_is_acknowledged_in_part(self):
        node = Node(5, ())
        each = (1, 2, 3)
        self.play(node, (
            ("rises", (1, 3), ()), ("rises", (2, 900), ()), ("rises", (3, 900), ()),
            ("comes", (1, report(1, 4, 1)), tuple((x, report(1, 7, 5)) for x in each) + ((1, ack(1)),)),
            ("comes", (2, report(1, 1, 2)), ((2, ack(1)),)),
            ("comes", (1, report(5, 6, 1)), tuple((x, report(2, 9, 5)) for x in each) + ((1, ack(5)),)),
            ("comes", (1, report(6, 11, 1)), tuple((x, report(3, 14, 5)) for x in each)),
            ("comes", (1, ack(3)), ()), ("comes", (3, ack(3)), ((1, ack(6)),)),
            ("comes", (2, report(2, 8, 2)), ()), ("comes", (2, report(4, 20, 2)), ()),
            # By (9, 5) it would come to be up with (20, 2), not with (8, 2).
            ("comes", (2, ack(2)), ((2, ack(2)),)), ("comes", (2, ack(3)), ((2, ack(4)),)),
        ))


class Refusals(unittest.TestCase):

    def node(self):
        node = Node(5, ("1",))
        for call, arguments in (
            ("rises", (1, 3)), ("rises", (2, 9)), ("comes", (1, report(4, 0, 1))), ("comes", (1, report(6, 9, 1))),
            ("comes", (2, ack(1))), ("comes", (2, ack(1, p="1"))), ("comes", (1, report(3, 7, 1, p="01"))),
        ):
            getattr(node, call)(*arguments)
        return node

    def told(self, node):
        return told_by(node, (1, 2, 3, 5), ("", "1", "01", "0"))

    def refused(self, call, arguments, value):
        node = self.node()
        self.assertEqual(outcome(getattr(node, call), *arguments), raised(Refused(value)), (call, arguments))
        self.assertEqual(self.told(node), self.told(self.node()))
        # What was refused leaves nothing behind that is told later.
        for event in (("turns", (1, 5)), ("comes", (2, report(2, 1, 2))), ("falls", (1,)), ("rises", (3, 1))):
            self.assertEqual(outcome(getattr(node, event[0]), *event[1]), self.after(event))

    def after(self, event):
        node = self.node()
        for other in (("turns", (1, 5)), ("comes", (2, report(2, 1, 2))), ("falls", (1,)), ("rises", (3, 1))):
            told = outcome(getattr(node, other[0]), *other[1])
            if other == event:
                return told

    def test_each_fault(self):
        for x in (1, 2, 5):
            self.refused("rises", (x, 4), x)
        for x in (0, 3, 5, 31):
            self.refused("falls", (x,), x)
            self.refused("turns", (x, 7), x)
            self.refused("comes", (x, report(1, 0, x)), x)
            self.refused("comes", (x, ack(1)), x)
            self.refused("comes", (x, ("mail", "000000", ())), x)
            self.refused("comes", (x, report(1, 0, 1)), x)
        for x, letter in (
            (1, ("mail", "000000", ())), (2, ("mail", "010101", (3, 4))),
            (1, report(6, 9, 1)), (1, report(6)), (1, report(5, 1, 1)), (1, report(4, 0, 1)), (1, report(3, 7, 1, p="01")),
            (1, report(7, 9, 2)), (1, report(7, 9, 5)), (1, report(7, 9, 1, 0)), (2, report(1, 0, 1)), (2, report(1, 0, 5, p="111")),
            (2, ack(1)), (2, ack(3)), (2, ack(9)), (1, ack(3)), (2, ack(1, p="1")), (2, ack(2, p="1")), (1, ack(2, p="1")),
            (1, ack(1, p="0")), (2, ack(2, p="01")), (1, ack(2, p="01")),
        ):
            self.refused("comes", (x, letter), letter)

    def test_what_may_come_at_the_edges(self):
        for x, letter in ((1, report(7, 9, 1)), (1, report(7)), (1, report(9, 0, 1)), (2, report(1, 0, 2)), (2, ack(2)), (1, ack(1)), (1, ack(2)),
                          (1, ack(1, p="1")), (1, ack(1, p="01")), (1, report(4, 8, 1, p="01")), (2, report(1, 9, 0, -4, 2, p="111111"))):
            self.assertTrue(outcome(self.node().comes, x=x, letter=letter).startswith("returned"), letter)
        self.assertTrue(outcome(self.node().rises, x=3, cost=1).startswith("returned"))
        self.assertTrue(outcome(self.node().falls, x=2).startswith("returned"))
        self.assertTrue(outcome(self.node().turns, x=2, cost=1000).startswith("returned"))

    def test_told_of_no_neighbour(self):
        node = self.node()
        for x in range(32):
            for p in ("", "1", "0"):
                self.assertEqual(outcome(node.told, p, x) == raised(Refused(x)), x not in (1, 2))
        self.assertEqual(outcome(node.told, stretch="1", x=2), returned((0, 5)))
        node.falls(2)
        self.assertEqual(outcome(node.told, "1", 2), raised(Refused(2)))


class Policy(unittest.TestCase):

    def plays(self, seed, many, length, stretches, homes=(), kind=Play):
        chance = random.Random(seed)
        for _ in range(many):
            name, *names = chance.sample(range(32), chance.randrange(2, 9 if kind is Play else 5))
            yield kind(self, chance, name, homes, names, stretches), length

    def run_plays(self, *arguments):
        met = {}
        for play, length in self.plays(*arguments):
            for at in range(length):
                play.step()
                if at % 20 == 0:
                    play.same_book()
            play.same_book()
            met.update(play.met)
        return met

    def test_one_stretch(self):
        met = self.run_plays(44, 60, 100, ("",))
        met.update(self.run_plays(43, 40, 150, ("",), (), Climb))
        self.assertLessEqual({"rises", "falls", "turns", "comes", ("in part", True), ("in part", False), ("whole", True), ("whole", False),
                              ("waits", True), ("waits", False), ("target", True), ("target", False)}, set(met))

    def test_several_stretches(self):
        self.run_plays(45, 20, 120, ("", "0", "01", "1", "010101"))

    def test_houses(self):
        self.run_plays(46, 15, 80, ("", "0", "01", "111"), ("01", ""))
        self.run_plays(47, 10, 60, ("", "10"), ("10",))

    def test_new_nodes(self):
        for name, homes in ((0, ()), (31, ("", "010101"))):
            node = Node(name=name, homes=homes)
            self.assertEqual((node.name, node.book().name, node.book().near()), (name, name, ()))
            for p in EVERY:
                self.assertEqual(outcome(node.target, stretch=p), returned(None))
                self.assertEqual(outcome(node.number, stretch=p), returned((0, name) if p in homes else None))

    def test_stretches_do_not_touch_one_another(self):
        """What a node sends for one stretch is what one sends that heard of this one alone."""
        chance = random.Random(48)
        for _ in range(25):
            stretches, homes = ("", "0", "01"), chance.choice(((), ("0",), ("", "01")))
            play = Play(self, chance, 7, homes, (1, 2, 3, 4), stretches)
            alone = {p: Node(7, tuple(home for home in homes if home == p)) for p in stretches}
            for _ in range(90):
                event = play.event()
                letters = getattr(play.model, event[0])(*event[1:])
                self.assertEqual(getattr(play.node, event[0])(*event[1:]), letters)
                for p in stretches:
                    if event[0] != "comes" or event[2][1] == p:
                        own = getattr(alone[p], event[0])(*event[1:])
                        self.assertEqual(own, tuple(letter for letter in letters if letter[1][1] == p))

    def test_the_order_of_letters(self):
        node = Node(5, ("1", "0", "000", "", "01"))
        self.assertEqual([letter[1] for x, letter in node.rises(9, 1)], ["", "0", "1", "01", "000"])
        node.rises(2, 1)
        letters = node.comes(9, report(1, 0, 9, p="11"))
        self.assertEqual([(x, letter[0]) for x, letter in letters], [(2, "report"), (9, "report"), (9, "ack")])
        node = Node(5, ())
        node.rises(9, 1), node.rises(2, 1)
        for p in ("111", "0", "10", "", "01"):
            node.comes(2, report(1, 4, 2, p=p))
        self.assertEqual(outcome(node.falls, 2), returned(tuple((9, report(2, p=p)) for p in ("", "0", "01", "10", "111"))))
        many = Node(0, tuple(sorted(EVERY, reverse=True)))
        self.assertEqual([letter[1] for x, letter in many.rises(1, 1)], sorted(EVERY, key=lambda p: (len(p), p)))

    def test_the_target_s_acknowledgement_goes_first(self):
        node = Node(5, ())
        for x in (1, 2, 3):
            node.rises(x, 1)
        node.comes(2, report(1, 5, 2))
        # The one that is left and the others are acknowledged behind the one that is taken.
        node.comes(2, report(2, 9, 2))
        node.comes(1, report(1, 9, 1))
        letters = node.comes(3, report(1, 1, 3))
        self.assertEqual(letters, tuple((x, report(3, 2, 5)) for x in (1, 2, 3)) + ((3, ack(1)), (2, ack(2))))
        self.assertEqual(node.target(""), 3)

    def test_book_is_a_copy(self):
        chance = random.Random(49)
        play = Play(self, chance, 7, ("0",), (1, 2, 3), ("", "0"))
        for _ in range(60):
            play.step()
        before = told_by(play.node, (1, 2, 3), ("", "0"))
        book = play.node.book()
        for x in book.near():
            book.add_event(("told", x, "", 9999, None))
            book.add_event(("fall", x))
        book.add_event(("rise", 20))
        self.assertEqual(told_by(play.node, (1, 2, 3), ("", "0")), before)
        kept = play.node.book()
        states = [kept.row_states(x) for x in kept.near()]
        for _ in range(30):
            play.step()
        self.assertEqual([kept.row_states(x) for x in kept.near()], states)

    def test_asking_changes_nothing(self):
        chance = random.Random(50)
        play = Play(self, chance, 7, ("0",), (1, 2, 3), ("", "0"))
        for _ in range(60):
            told = told_by(play.node, range(32), EVERY)
            self.assertEqual(told_by(play.node, range(32), EVERY), told)
            play.step()
        self.assertFalse(has_list(play.node.turns(play.model.near()[0], 77) if play.model.near() else ()))

    def test_sizes(self):
        """5,000 events with seven neighbours, and every stretch at once."""
        chance = random.Random(51)
        names, node = (1, 2, 3, 4, 5, 6, 31), Node(7, ("", "1"))
        serials, told = {}, {}
        for x in names:
            self.assertEqual(node.rises(x, 1000), ((x, report(1, 0, 7)), (x, report(1, 0, 7, p="1"))))
        for many in range(5000 - 7):
            x, p = chance.choice(names), chance.choice(EVERY)
            if many % 9 == 0:
                letters = node.turns(x, chance.randrange(1, 1001))
            elif told.get((x, p)) and chance.random() < 0.5:
                letters = node.comes(x, ("ack", p, told.pop((x, p))))
            else:
                serials[x, p] = serials.get((x, p), 0) + 10 ** 9
                letters = node.comes(x, ("report", p, serials[x, p], chance.choice((None, (10 ** 12, -10 ** 12, x), (chance.randrange(99), x)))))
            for y, letter in letters:
                if letter[0] == "report":
                    told[y, letter[1]] = letter[2]
        self.assertEqual((node.number(""), node.number("1"), node.target("1")), ((0, 7), (0, 7), None))
        self.assertTrue(all(node.told(p, x) == node.number(p) for p in EVERY for x in names))
