"""[24] to [27], and [1], [2], [7]."""

import random
import unittest

from maypoint.books import book_of, check_past
from maypoint.errors import BadDeed
from maypoint.worlds import World, run_deeds
from tests import chance as drawn
from tests import plain
from tests.support import any_values, has_list, outcome, raised, returned, untouched

# A run behind which deeds of every kind can be done.
RUN = (
    ("rise", 2, 0), ("rise", 1, 2), ("tell", 2, 0, "1", 3, (4, 2)), ("tell", 2, 0, "1", 5, (7, 2)), ("tell", 2, 0, "1", 8, None),
    ("come", 2, 0, "1"), ("come", 2, 0, "1"), ("ack", 0, 2, "1", 2), ("ack", 0, 2, "1", 3), ("back", 2, 0, "1"),
    ("tell", 0, 2, "1", 1, (9, 0)), ("rise", 1, 0), ("fall", 0, 1),
)
NEXT = (
    ("rise", 0, 1), ("rise", 1, 0), ("rise", 31, 5), ("fall", 0, 2), ("fall", 2, 0), ("tell", 2, 0, "1", 9, (4, -1, 2)),
    ("tell", 2, 0, "", 1, None), ("tell", 0, 2, "1", 2, (0, 0)), ("come", 2, 0, "1"), ("come", 0, 2, "1"),
    ("ack", 0, 2, "1", 4), ("ack", 0, 2, "1", 5), ("back", 2, 0, "1"),
)
BROKEN = (
    ("rise", 0, 2), ("rise", 2, 0), ("rise", 3, 3), ("fall", 0, 1), ("fall", 3, 4), ("fall", 2, 2), ("tell", 0, 1, "1", 1, None),
    ("tell", 2, 0, "1", 8, (4, 2)), ("tell", 2, 0, "1", 7, None), ("tell", 2, 0, "0", 0, None), ("tell", 2, 0, "1", 9, (4, 0)),
    ("tell", 2, 0, "1", 9, (4, 1)), ("tell", 2, 2, "1", 9, (4, 2)), ("come", 2, 0, ""), ("come", 2, 1, "1"), ("come", 0, 1, "1"),
    ("come", 1, 2, "1"), ("ack", 0, 2, "1", 3), ("ack", 0, 2, "1", 1), ("ack", 0, 2, "1", 0), ("ack", 0, 2, "1", 6),
    ("ack", 0, 2, "1", 8), ("ack", 2, 0, "1", 3), ("ack", 2, 0, "1", 1), ("ack", 0, 1, "1", 1), ("ack", 0, 2, "", 1),
    ("back", 0, 2, "1"), ("back", 2, 0, ""), ("back", 0, 1, "1"), ("back", 2, 1, "1"), ("rise", 32, 0), ("rise", 0, True),
    ("rise", -1, 0), ("rise", 4), ("rise", 4, 5, 6), (), ("",), ("told", 2, 0, "1", 9, None), ("tell", 2, 0, "1", 9),
    ("tell", 2, 0, "1", 9, None, None), ("tell", 2, 0, "1", 9, (2,)), ("tell", 2, 0, "1", 9, [4, 2]), ("tell", 2, 0, "12", 9, None),
    ("tell", 2, 0, "1", True, None), ("come", 2, 0), ("come", 2, 0, "1", 8), ("come", 2, 0, "1", 8, None), ("back", 2, 0, "1", 3),
    ("ack", 0, 2, "1"), ("ack", 0, 2, "1", 4, None), ("come", 2, False, "1"), ("back", 2, False, "1"), ("come", 2, 0, ["1"]),
    ("come", [2], 0, "1"),
)


def told(world):
    """All that a world answers."""
    names = (0, 1, 2, 5, 31)
    books = [[(x, book.row_states(x)) for x in book.near()] for book in [world.book(name) for name in names]]
    return world.names(), world.links(), world.under_way(), [world.view(name) for name in names], books


class Deeds(unittest.TestCase):

    def plain_run(self):
        world = plain.PlainWorld()
        for deed in RUN:
            self.assertTrue(world.can(deed))
            world.do(deed)
        return world

    def test_what_can_be_done(self):
        for deed in NEXT:
            world = run_deeds(RUN)
            self.assertEqual(outcome(world.do, deed=deed), returned(None), deed)
            self.assertEqual(told(world), told(run_deeds(deeds=RUN + (deed,))))
            other = self.plain_run()
            self.assertTrue(other.can(deed))
            other.do(deed)
            self.same(world, other)

    def test_each_condition_broken(self):
        model = self.plain_run()
        for deed in BROKEN:
            self.assertFalse(model.can(deed), deed)
            self.refused(deed)

    def refused(self, deed):
        world = run_deeds(RUN)
        before = told(world)
        self.assertEqual(untouched(world.do, deed), (raised(BadDeed(0)), True), deed)
        self.assertEqual(told(world), before)
        self.assertEqual(outcome(run_deeds, RUN + (deed,)), raised(BadDeed(len(RUN))))

    def test_wrong_forms(self):
        model = self.plain_run()
        for deed in NEXT:
            for wrong in (deed + (1,), deed + (None,), deed[:-1], list(deed), (deed,), [deed], (deed[0].upper(),) + deed[1:],
                          ("",) + deed[1:], ("told",) + deed[1:], ("acks",) + deed[1:]):
                self.assertFalse(model.can(wrong))
                self.refused(wrong)

    def test_another_value_in_each_place(self):
        model = self.plain_run()
        world = run_deeds(RUN)
        for deed in NEXT:
            for at in range(len(deed)):
                for value in any_values():
                    changed = deed[:at] + (value,) + deed[at + 1:]
                    if model.can(changed):
                        self.assertEqual(outcome(run_deeds(RUN).do, changed), returned(None), changed)
                    else:
                        self.assertEqual(outcome(world.do, changed), raised(BadDeed(0)), changed)
        self.assertEqual(told(world), told(run_deeds(RUN)))

    def test_any_value(self):
        world = run_deeds(RUN)
        for value in any_values():
            self.assertEqual(untouched(world.do, value), (raised(BadDeed(0)), True))
        self.assertEqual(told(world), told(run_deeds(RUN)))

    def same(self, world, model):
        """The world answers all as the list of its deeds does."""
        self.assertEqual(outcome(world.names), returned(model.names()))
        self.assertEqual(outcome(world.links), returned(model.links()))
        self.assertEqual(outcome(world.under_way), returned(model.under_way()))
        for name in model.names():
            self.assertEqual(outcome(world.view, name), returned(model.view(name)))

    def test_against_the_list_of_deeds(self):
        chance = random.Random(24)
        for _ in range(25):
            world, model, serials = World(), plain.PlainWorld(), drawn.Serials(chance)
            for _ in range(80):
                deed = drawn.deed(chance, serials, (0, 3, 9), model.under_way(), ("", "01"))
                can = model.can(deed)
                self.assertEqual(outcome(world.do, deed), returned(None) if can else raised(BadDeed(0)), deed)
                if can:
                    model.do(deed)
                    self.assertEqual(world.under_way(), model.under_way())
            self.same(world, model)
            self.assertEqual(told(world), told(run_deeds(tuple(model.deeds))))


class Runs(unittest.TestCase):

    def test_no_tuple(self):
        for value in (None, 0, True, "", "rise", [], [("rise", 0, 1)], list(RUN)):
            self.assertEqual(untouched(run_deeds, value), (raised(BadDeed(-1)), True))

    def test_the_first_deed_that_cannot_be_done(self):
        for at in range(len(RUN) + 1):
            for wrong in (("rise", 4, 4), None, ["rise", 7, 8], ("come", 2, 0, "01"), ()):
                self.assertEqual(outcome(run_deeds, RUN[:at] + (wrong, None) + RUN[at:]), raised(BadDeed(at)))
        for at in (2, 3, 5, 6, 8, 10, 12):
            self.assertEqual(outcome(run_deeds, RUN[:at] + RUN[at:] + RUN[:1]), raised(BadDeed(len(RUN))))

    def test_any_value(self):
        for value in any_values():
            at = -1 if type(value) is not tuple else 0
            if value != ():
                self.assertEqual(untouched(run_deeds, value), (raised(BadDeed(at)), True))
            self.assertEqual(untouched(run_deeds, RUN[:2] + (value,)), (raised(BadDeed(2)), True))

    def test_nothing_done(self):
        for world in (World(), run_deeds(())):
            self.assertEqual((world.names(), world.links(), world.under_way()), ((), (), ()))
            for name in range(32):
                self.assertEqual(outcome(world.view, name=name), returned((name, ())))
                book = world.book(name=name)
                self.assertEqual((book.name, book.near()), (name, ()))


class Views(unittest.TestCase):

    def test_who_sees_what(self):
        world = run_deeds(RUN[:10])
        self.assertEqual(outcome(world.view, 0), returned((0, (
            ("rise", 2), ("heard", 2, "1", 3, (4, 2)), ("heard", 2, "1", 5, (7, 2)), ("acks", 2, "1", 2), ("acks", 2, "1", 3)))))
        self.assertEqual(outcome(world.view, 2), returned((2, (
            ("rise", 0), ("rise", 1), ("told", 0, "1", 3, (4, 2)), ("told", 0, "1", 5, (7, 2)), ("told", 0, "1", 8, None),
            ("backs", 0, "1", 2)))))
        self.assertEqual(outcome(world.view, 1), returned((1, (("rise", 2),))))
        self.assertEqual(world.under_way(), (("back", 2, 0, "1"), ("come", 2, 0, "1")))

    def test_a_deed_is_seen_by_nobody_else(self):
        for deed in NEXT:
            world = run_deeds(RUN)
            before = {name: world.view(name) for name in range(32)}
            world.do(deed)
            seers = {"rise": deed[1:3], "fall": deed[1:3], "tell": deed[1:2], "ack": deed[1:2], "come": deed[2:3], "back": deed[1:2]}
            changed = [name for name in range(32) if world.view(name) != before[name]]
            self.assertEqual(changed, sorted(seers[deed[0]]))

    def test_what_is_under_way_is_gone_with_the_fall(self):
        for fall in (("fall", 0, 2), ("fall", 2, 0)):
            world = run_deeds(RUN + (("tell", 2, 1, "0", 1, None),))
            self.assertEqual(world.under_way(),
                             (("back", 2, 0, "1"), ("come", 0, 2, "1"), ("come", 2, 0, "1"), ("come", 2, 1, "0")))
            world.do(fall)
            self.assertEqual((world.under_way(), world.links()), ((("come", 2, 1, "0"),), ((1, 2),)))
            world.do(("rise", 0, 2))
            self.assertEqual(world.under_way(), (("come", 2, 1, "0"),))
            for deed in (("come", 2, 0, "1"), ("back", 2, 0, "1"), ("ack", 0, 2, "1", 1)):
                self.assertEqual(outcome(world.do, deed), raised(BadDeed(0)))
            world.do(("tell", 2, 0, "1", 1, (3, 2)))
            world.do(("come", 2, 0, "1"))
            self.assertEqual(world.view(0)[1][-1], ("heard", 2, "1", 1, (3, 2)))

    def test_reports_of_one_stretch_come_in_order_others_overtake(self):
        world = run_deeds((("rise", 0, 1), ("tell", 0, 1, "1", 1, (1, 0)), ("tell", 0, 1, "", 1, (2, 0)), ("tell", 0, 1, "1", 2, (3, 0)),
                           ("come", 0, 1, ""), ("come", 0, 1, "1"), ("come", 0, 1, "1")))
        self.assertEqual(world.view(1)[1][1:], (
            ("heard", 0, "", 1, (2, 0)), ("heard", 0, "1", 1, (1, 0)), ("heard", 0, "1", 2, (3, 0))))

    def test_books(self):
        world = run_deeds(RUN)
        before = told(world)
        for name in range(32):
            book, seen = world.book(name), book_of(world.view(name))
            self.assertEqual((book.name, book.near()), (name, seen.near()))
            for x in book.near():
                self.assertEqual(book.row_states(x), seen.row_states(x))
            book.add_event(("rise", 30 if name != 30 else 29))
            for x in book.near():
                book.add_event(("told", x, "1", 99, None))
                book.add_event(("fall", x))
            self.assertEqual(told(world), before)
        self.assertFalse(has_list(world.view(2)) or has_list(world.links()) or has_list(world.under_way()))


class Theorems(unittest.TestCase):

    def test_what_is_heard_counts_for_its_teller_too(self):
        chance = random.Random(27)
        met = 0
        for _ in range(40):
            world, serials = World(), drawn.Serials(chance)
            for _ in range(80):
                deed = drawn.deed(chance, serials, (0, 3, 9), world.under_way())
                outcome(world.do, deed)
                for i, m in world.links():
                    for one, other in ((i, m), (m, i)):
                        for a in plain.ADDRESSES[:2]:
                            heard, told_key = world.book(one).l(a, other), world.book(other).v(a, one)
                            if heard is not None:
                                met += 1
                                self.assertTrue(told_key is not None and told_key <= heard)
        self.assertGreater(met, 100)

    def test_every_past_is_a_view(self):
        chance = random.Random(28)
        for _ in range(60):
            past = drawn.past(chance, plain.may_come, 40)
            world = World()
            for event in past[1]:
                self.play(world, past[0], event)
            self.assertEqual(world.view(past[0]), past)
            check_past(world.view(1))

    def play(self, world, i, event):
        """The deeds by which node i sees just this event ([27])."""
        kind, x = event[:2]
        if kind in ("rise", "fall"):
            world.do((kind, i, x))
        elif kind == "told":
            world.do(("tell", i) + event[1:])
        elif kind == "acks":
            world.do(("ack", i) + event[1:])
        elif kind == "heard":
            world.do(("tell", x, i) + event[2:])
            world.do(("come", x, i, event[2]))
        else:
            p, k = event[2:]
            came = plain.of_kind(world.view(x)[1], i, "heard", p)
            while not came or came[-1][3] < k:
                world.do(("come", i, x, p))
                came = plain.of_kind(world.view(x)[1], i, "heard", p)
            world.do(("ack", x, i, p, k))
            world.do(("back", i, x, p))
