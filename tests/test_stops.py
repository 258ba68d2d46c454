"""[68] and [69]."""

import itertools
import random
import unittest

from maypoint.books import Book
from maypoint.errors import BadDeed, Refused
from maypoint.rings import ring_in
from maypoint.stops import Keeper, check_story, needed_rows, started_book, stop_net, stop_net_serves, story_book, story_fault
from maypoint.worlds import World, run_deeds
from tests import chance as drawn
from tests import plain, stories
from tests.support import any_values, has_list, outcome, raised, returned, untouched


def serves(story, at, net):
    """What [69] asks of a net, condition by condition."""
    if type(net) is not tuple or len(net) != 4 or type(net[0]) is not tuple or not 0 <= at < len(story[1]):
        return False
    tail, run, address, x = net
    if not plain.is_stretch(address) or len(address) != 6 or not plain.is_name(x):
        return False
    course = stories.plain_story((story[0], story[1][:at + 1]))
    for place, event in enumerate(tail):
        if not course.may_come(event) or (event[0] == "stop") != (place == 0) or course.needed(event):
            return False
        course.sees(event)
    if not tail:
        return False
    try:
        world = run_deeds(run)
    except BadDeed:
        return False
    if repr(world.view(story[0])) != repr(course.past()) or x not in course.own.near:
        return False
    return course.own.may(address, x) and plain.may(list(world.view(x)[1]), address, story[0])


class Needed(unittest.TestCase):

    def check(self, course, event):
        """For the cuts that may survive, and for those of any other flush."""
        book, rows = story_book(stories.story_of(course)), course.rows
        flushed = course.flushed
        for course.flushed in sorted({flushed, 0, len(rows) // 2, len(rows)}):
            needed = course.needed(event)
            self.assertEqual(untouched(needed_rows, book, rows, course.flushed, event)[0], returned(needed), (stories.story_of(course), event))
            self.assertEqual(needed_rows(book=book, rows=rows, flushed=course.flushed, event=event), needed)
        course.flushed = flushed
        self.assertEqual(stories.asked(book), stories.asked(course.own))
        return needed

    def test_for_each_cut(self):
        met = {}
        for seed in range(120):
            chance = random.Random(seed)
            course = stories.story_by_chance(chance, chance.choice((3, 10, 30, 60)), chance.choice((0, 0.5, 1)), chance.choice(((20, 6, 3, 3), (20, 20, 2, 2))))
            for event in stories.trap(chance, course, chance.choice(("told", "acks"))) if course.true.near else ():
                if course.may_come(event):
                    course.sees(event)
            for _ in range(15):
                event = stories.past_event(chance, course, range(32))
                if course.may_see(event):
                    self.check(course, event)
                    kind = (event[0], tuple(row[0] for row in course.needed(event)))
                    met[kind] = met.get(kind, 0) + 1
        for kind in (("told", ("floor", "limit")), ("told", ("floor",)), ("told", ("limit",)), ("told", ()), ("acks", ("ceiling",)), ("acks", ()), ("heard", ()),
                     ("backs", ()), ("rise", ()), ("fall", ())):
            self.assertGreater(met.get(kind, 0), 5, (kind, met))

    def test_each_condition(self):
        links = ((5, 2), (7, 1))
        book = started_book(3, (("floor", 5, 2, "", (6, 3)), ("limit", 4)), links, ())
        floor, low, high = ("floor", 5, 2, "", (6, 3)), ("floor", 5, 2, "", (2, 3)), ("floor", 5, 2, "", (8, 3))
        told = ("told", 5, "", 5, (7, 3))
        for rows, flushed, event, needed in (
            # The least of the own row behind the event is the floor that it began with.
            ((), 0, told, (floor, ("limit", 5))), ((floor,), 0, told, (floor, ("limit", 5))), ((floor,), 1, told, (("limit", 5),)),
            ((floor, ("limit", 5)), 2, told, ()), ((("limit", 9), floor), 1, told, (floor,)), ((("limit", 9), low), 2, told, ()),
            ((("limit", 9), floor, high), 3, told, (floor,)), ((("limit", 9), floor, high), 2, told, (floor,)), ((("limit", 9), high, floor), 2, told, (floor,)),
            ((("limit", 9), high, floor), 3, told, ()), ((("limit", 9), floor, high, low), 2, told, (floor,)), ((("limit", 9), floor, high, low), 4, told, ()),
            ((floor, ("limit", 9), ("limit", 4)), 3, told, ()), ((floor, ("limit", 9), ("limit", 4)), 1, told, (("limit", 5),)),
            # Of another life, neighbour, stretch or kind.
            ((("limit", 5), ("floor", 5, 1, "", (6, 3))), 2, told, (floor,)), ((("limit", 5), ("floor", 7, 2, "", (6, 3))), 2, told, (floor,)),
            ((("limit", 5), ("floor", 5, 2, "0", (6, 3))), 2, told, (floor,)), ((("limit", 5), ("ceiling", 5, 2, "", (6, 5))), 2, told, (floor,)),
            ((("limit", 5), floor, ("floor", 5, 2, "", None)), 2, told, (floor,)), ((("limit", 5), ("floor", 5, 2, "", None), floor), 3, told, ()),
            # A lesser number, a stretch that begins with NONE, and NONE.
            ((("limit", 5), floor), 2, ("told", 5, "", 5, (1, 3)), (("floor", 5, 2, "", (1, 3)),)), ((("limit", 5), floor), 2, ("told", 5, "", 5, None), ()),
            ((("limit", 5),), 1, ("told", 5, "1", 5, (1, 3)), (("floor", 5, 2, "1", (1, 3)),)), ((("limit", 5),), 1, ("told", 5, "1", 5, None), ()),
            ((("limit", 5),), 1, ("told", 7, "1", 6, None), (("limit", 6),)),
            ((), 0, ("heard", 5, "", 1, (0, 5)), ()), ((), 0, ("fall", 5), ()), ((), 0, ("rise", 9), ()),
        ):
            self.assertEqual(outcome(needed_rows, book, rows, flushed, event), returned(needed), (rows, flushed, event))

    def test_ceilings(self):
        low, high, none = ("ceiling", 5, 1, "", (2, 5)), ("ceiling", 5, 1, "", (6, 5)), ("ceiling", 5, 1, "", None)
        book = started_book(3, (low,), ((5, 1),), ())
        for event in (("heard", 5, "", 3, (4, 5)), ("heard", 5, "", 6, (6, 5)), ("heard", 5, "", 7, None)):
            book.add_event(event)
        for rows, flushed, k, needed in (
            ((), 0, 6, ()), ((low,), 1, 6, (high,)), ((low,), 0, 6, (high,)), ((low, high), 1, 6, (high,)), ((low, high), 2, 6, ()), ((low, none), 2, 6, ()),
            ((high, low), 2, 6, (high,)), ((high, low), 1, 6, (high,)), ((low,), 1, 3, (("ceiling", 5, 1, "", (4, 5)),)), ((low,), 1, 7, (none,)),
            ((low, none), 1, 7, (none,)), ((low, none), 2, 7, ()), ((high,), 1, 7, (none,)), ((("ceiling", 5, 2, "", (2, 5)),), 1, 6, ()),
            ((("ceiling", 5, 1, "0", (2, 5)),), 1, 6, ()), ((("floor", 5, 1, "", (2, 3)),), 1, 6, ()), ((("limit", 1),), 0, 6, ()),
        ):
            self.assertEqual(outcome(needed_rows, book, rows, flushed, ("acks", 5, "", k)), returned(needed), (rows, flushed, k))

    def test_lives_are_counted_on(self):
        """A book that was started knows the lives of links that fell ahead of the start, and of those that rise again."""
        book = started_book(3, (), ((5, 4),), ((7, 2),))
        for event in (("rise", 7), ("fall", 5), ("rise", 5), ("rise", 9)):
            book.add_event(event)
        for x, life in ((5, 5), (7, 3), (9, 1)):
            self.assertEqual(needed_rows(book, (), 0, ("told", x, "", 1, (2, 3))), (("floor", x, life, "", (2, 3)), ("limit", 1)))
        self.assertEqual(needed_rows(book.copied(), (), 0, ("told", 7, "", 1, (2, 3)))[0][2], 3)


class Keepers(unittest.TestCase):

    def told(self, keeper):
        return (keeper.story(), stories.asked(keeper.book()), [keeper.let(a) for a in stories.ADDRESSES])

    def expected(self, course):
        return (stories.story_of(course), stories.asked(course.own), [course.own.let(a) for a in stories.ADDRESSES])

    def test_by_a_plain_reading(self):
        refused = 0
        for seed in range(40):
            chance = random.Random(680 + seed)
            name, *names = chance.sample(range(32), chance.choice((2, 4)))
            keeper, course = Keeper(name), stories.PlainStory(name)
            weights = chance.choice(((20, 0, 0, 2), (20, 4, 3, 3), (20, 0, 6, 1)))
            for _ in range(70):
                event = stories.event(chance, course, names, weights)
                if chance.random() < 0.05:
                    event = chance.choice(any_values())
                if course.may_come(event):
                    # Written in their order, then flushed once, then the event.
                    self.assertEqual(outcome(keeper.do, event=event), returned(course.keeps(event)))
                else:
                    refused += 1
                    self.assertEqual(untouched(keeper.do, event), (raised(Refused(event)), True))
                self.assertEqual(keeper.story(), stories.story_of(course))
                if chance.random() < 0.15:
                    self.assertEqual(self.told(keeper), self.expected(course))
            self.assertEqual(self.told(keeper), self.expected(course))
            self.assertFalse(has_list(keeper.story()))
            self.assertIs(check_story(keeper.story()) is not None, True)
        self.assertGreater(refused, 150)

    def test_no_fault_of_those_that_write_by_themselves(self):
        rows = 0
        for seed in range(30):
            chance = random.Random(690 + seed)
            name, *names = chance.sample(range(32), chance.choice((2, 3, 6)))
            keeper, course = Keeper(name), stories.PlainStory(name)
            for _ in range(90):
                event = stories.event(chance, course, names, (20, 0, 1, 2))
                if course.may_come(event):
                    rows += len(keeper.do(event))
                    course.keeps(event)
                    self.assertIsNone(course.wrong(), stories.story_of(course))
            self.assertEqual(outcome(story_fault, keeper.story()), returned(None))
        self.assertGreater(rows, 300)

    def test_new_keepers(self):
        keeper = Keeper(name=9)
        self.assertEqual((keeper.story(), keeper.let(address="000000"), keeper.book().near()), ((9, ()), (), ()))
        self.assertIsInstance(keeper.book(), Book)
        self.assertEqual((outcome(keeper.do, ("flush",)), outcome(keeper.do, ("stop", 0)), keeper.story()),
                         (returned(()), returned(()), (9, (("flush",), ("stop", 0)))))
        for event in (("rise", 9), ("fall", 1), ("stop", 1), ("write", ("floor", 1, 1, "", None)), None):
            self.assertEqual(outcome(keeper.do, event), raised(Refused(event)))

    def test_the_book_is_a_copy(self):
        keeper = Keeper(3)
        keeper.do(("rise", 5))
        book = keeper.book()
        book.add_event(("told", 5, "", 1, (1, 3)))
        self.assertEqual((keeper.book().row_states(5), keeper.story()), ((), (3, (("rise", 5),))))
        keeper.do(("heard", 5, "", 1, (1, 5)))
        self.assertEqual((keeper.let("000000"), book.let("000000")), ((5,), ()))


class Faults(unittest.TestCase):

    def test_by_a_plain_reading(self):
        met = {}
        for seed in range(250):
            chance = random.Random(seed)
            weights = chance.choice(((30, 6, 3, 1), (30, 0, 1, 2), (30, 12, 2, 2)))
            course = stories.story_by_chance(chance, chance.choice((4, 15, 40)), chance.choice((0, 0.5, 0.9, 1)), weights)
            story = stories.story_of(course)
            told = stories.fault(story)
            self.assertEqual(outcome(story_fault, story), returned(told), story)
            met[told and told[1]] = met.get(told and told[1], 0) + 1
        self.assertGreater(min(met.get(word, 0) for word in (None, "floor", "ceiling", "limit")), 10, met)

    def test_the_first_fault_of_each_kind(self):
        met = {}
        for chance, course in stories.faulty_stories(69, 120):
            story = stories.story_of(course)
            told = (len(story[1]) - 1, course.wrong())
            self.assertEqual(untouched(story_fault, story), (returned(told), True), story)
            self.assertEqual(outcome(story_fault, story=(story[0], story[1][:-1])), returned(None))
            kind = (told[1], story[1][-1][0])
            met[kind] = met.get(kind, 0) + 1
            # What comes behind the first one does not matter.
            longer = (story[0], story[1] + (("flush",), ("stop", len(course.rows))))
            self.assertEqual(story_fault(longer), told)
        for kind in (("floor", "told"), ("limit", "told"), ("ceiling", "acks"), ("ceiling", "write"), ("floor", "write")):
            self.assertGreater(met.get(kind, 0), 3, met)

    def test_each_word_and_which_is_first(self):
        up, told, heard = ("rise", 5), ("told", 5, "", 4, (7, 3)), ("heard", 5, "", 2, (6, 5))
        floor, limit = ("write", ("floor", 5, 1, "", (7, 3))), ("write", ("limit", 4))
        low, flush = ("write", ("ceiling", 5, 1, "", (2, 5))), ("flush",)
        for events, fault in (
            ((), None), ((up,), None), ((up, heard), None), ((up, told), (1, "floor")), ((up, floor, flush, told), (3, "limit")),
            ((up, floor, limit, flush, told), None), ((up, limit, floor, flush, told), None), ((up, floor, limit, told), (3, "floor")),
            ((up, limit, flush, floor, told), (4, "floor")), ((up, floor, flush, limit, told), (4, "limit")), ((up, limit, flush, told), (3, "floor")),
            # NONE needs no floor, and a limit as any other.
            ((up, ("told", 5, "", 4, None)), (1, "limit")), ((up, limit, flush, ("told", 5, "", 4, None)), None),
            ((up, limit, flush, ("told", 5, "", 5, None)), (3, "limit")),
            # A ceiling below what was heard, or of what was not heard at all; a wrong row by itself, though not flushed.
            ((up, low), (1, "ceiling")), ((up, heard, low), (2, "ceiling")), ((up, heard, ("write", ("ceiling", 5, 1, "", (6, 5)))), None),
            ((up, heard, ("write", ("ceiling", 5, 1, "", (7, 5)))), None), ((up, heard, ("write", ("ceiling", 5, 1, "", None))), None),
            ((up, heard, ("write", ("ceiling", 5, 1, "", (6, 5))), ("heard", 5, "", 3, None), ("acks", 5, "", 2)), None),
            ((up, heard, ("write", ("ceiling", 5, 1, "", (6, 5))), ("heard", 5, "", 3, None), ("acks", 5, "", 3)), (4, "ceiling")),
            ((up, heard, ("write", ("ceiling", 5, 1, "", (6, 5))), ("heard", 5, "", 3, None), ("write", ("ceiling", 5, 1, "", None)), ("acks", 5, "", 3)), (5, "ceiling")),
            ((up, heard, ("write", ("ceiling", 5, 1, "", (6, 5))), ("heard", 5, "", 3, None), ("write", ("ceiling", 5, 1, "", None)), flush, ("acks", 5, "", 3)), None),
            # A floor that is too high behind a right one.
            ((up, floor, limit, flush, told, ("write", ("floor", 5, 1, "", (8, 3)))), (5, "floor")), ((up, floor, limit, flush, told, ("write", ("floor", 5, 1, "", None))), (5, "floor")),
            ((up, floor, limit, flush, told, ("write", ("floor", 5, 1, "", (6, 3)))), None), ((up, floor, limit, flush, told, ("backs", 5, "", 4)), None),
            ((up, floor, limit, flush, told, ("told", 5, "", 5, None), ("backs", 5, "", 5), ("write", ("floor", 5, 1, "", None))), (5, "limit")),
            ((up, floor, ("write", ("limit", 5)), flush, told, ("told", 5, "", 5, None), ("backs", 5, "", 5), ("write", ("floor", 5, 1, "", None))), None),
            # Links that fell, and rose again: of another life nothing matters.
            ((up, floor, limit, flush, told, ("fall", 5), up, ("stop", 2)), None), ((up, floor, limit, flush, told, ("fall", 5), up, told), (7, "floor")),
            ((up, low, ("fall", 5)), (1, "ceiling")), ((up, ("fall", 5), up, ("write", ("floor", 5, 2, "", None)), limit, flush, ("told", 5, "", 4, None)), None),
            # Two at once: the first of the words, whichever cut it is in.
            ((up, heard, ("write", ("ceiling", 5, 1, "", (6, 5))), flush, low), (4, "ceiling")),
            # A floor above nothing that counts is right; behind a start the true rows are what they were.
            ((up, ("write", ("floor", 5, 1, "", (3, 3))), limit, ("stop", 2), ("told", 5, "", 5, (3, 3))), (4, "limit")),
            ((up, ("write", ("floor", 5, 1, "", (3, 3))), limit, ("stop", 2), ("told", 5, "", 5, (2, 3))), (4, "floor")),
            ((up, floor, limit, flush, told, ("stop", 2), ("backs", 5, "", 4), ("told", 5, "", 5, None)), (7, "limit")),
        ):
            story = (3, events)
            self.assertIs(check_story(story), story)
            self.assertEqual(stories.fault(story), fault, story)
            self.assertEqual(outcome(story_fault, story), returned(fault), story)


class Nets(unittest.TestCase):

    def same(self, story, at, net):
        told = serves(story, at, net)
        self.assertEqual(untouched(stop_net_serves, story, at, net), (returned(told), True), (story, at, net))
        return told

    def is_net(self, story, at, net):
        self.assertEqual((len(net), has_list(net)), (4, False))
        self.assertTrue(self.same(story, at, net), (story, at, net))
        self.assertLessEqual(len(net[0]), 120)
        self.assertEqual([event[0] for event in net[0]].count("stop"), 1)

    def test_a_net_for_each_kind_of_fault(self):
        met, longest = {}, 0
        for chance, course in stories.faulty_stories(690, 150):
            story, at = stories.story_of(course), len(course.events) - 1
            kind = (course.wrong(), story[1][at][0])
            if kind == ("limit", "told") and story[1][at][4] is None:
                self.assertEqual(outcome(stop_net, story, at), raised(Refused(at)))
                kind = "none"
            else:
                net = stop_net(story, at)
                self.is_net(story, at, net)
                longest = max(longest, len(net[0]))
                # The same for a longer story, of which this is the first fault, and by name.
                longer = (story[0], story[1] + (("stop", len(course.rows)), ("flush",)))
                self.is_net(longer, at, stop_net(story=longer, at=at))
            met[kind] = met.get(kind, 0) + 1
            for other in (at - 1, at + 1, -1, 0, 10 ** 6):
                if other != at:
                    self.assertEqual(outcome(stop_net, story, other), raised(Refused(other)))
        for kind in (("floor", "told"), ("limit", "told"), ("ceiling", "acks"), ("ceiling", "write"), ("floor", "write")):
            self.assertGreater(met.get(kind, 0), 3, met)
        self.assertGreater(longest, 11)

    def test_refused_without_a_fault(self):
        for seed in range(10):
            story = stories.story_of(stories.without_fault(random.Random(seed), 12))
            for at in range(-1, 14):
                self.assertEqual(outcome(stop_net, story, at), raised(Refused(at)))
        self.assertEqual(outcome(stop_net, (3, ()), 0), raised(Refused(0)))

    def test_much_told_for_all_stretches_of_an_address(self):
        """Seven neighbours, numbers told and heard for seven stretches: all but one are cleared."""
        names = (5, 6, 7, 8, 9, 10, 11)
        start = tuple(("rise", x) for x in names) + (("write", ("limit", 9)),)
        floors = tuple(("write", ("floor", 5, 1, "010111"[:many], (4, 3))) for many in range(7))
        told = tuple(("told", 5, "010111"[:many], 2, (4, 3)) for many in range(7)) + tuple(("heard", 5, "010111"[:many], 3, (8, 5)) for many in range(7))
        right = start + floors + (("flush",),) + told
        self.assertIsNone(story_fault((3, right)))
        for many in range(7):
            p = "010111"[:many]
            for last, word in ((("told", 5, p, 5, (1, 3)), "floor"), (("write", ("ceiling", 5, 1, p, (7, 5))), "ceiling"), (("told", 5, p, 10, (6, 3)), "limit"),
                               (("write", ("floor", 5, 1, p, None)), "floor"), (("write", ("floor", 5, 1, p, (4, 3, 3))), "floor")):
                story = (3, right + (last,))
                self.assertEqual(story_fault(story), (len(right), word))
                net = stop_net(story, len(right))
                self.is_net(story, len(right), net)
                self.assertLess(len(run_deeds(net[1]).links()), 2)

    def test_told_nets(self):
        """Cuts of unlike faults, numbers side by side, and floors of which nothing was told."""
        up, flush = ("rise", 5), ("flush",)
        floor, none, limit = ("write", ("floor", 5, 1, "", (7, 3))), ("write", ("floor", 5, 1, "", None)), ("write", ("limit", 9))
        told, longer = ("told", 5, "", 1, (7, 3)), ("write", ("floor", 5, 1, "0", (4, 3)))
        for events, word in (
            # The lesser cut is wrong by its limit alone, the greater one by its floor, or the other way round.
            ((up, floor, flush, none, told), "floor"), ((up, limit, none, flush, floor, told), "floor"), ((up, floor, flush, limit, told), "limit"),
            ((up, none, flush, floor, limit, floor, told), "floor"),
            # By the own book a number counts for a longer stretch, and for a shorter one, though none was told.
            ((up, longer, limit, flush, told), "floor"), ((up, longer, floor, flush, told), "limit"), ((up, longer, limit, ("write", ("ceiling", 5, 1, "", (2, 5)))), "ceiling"),
            ((up, floor, limit, flush, ("told", 5, "0", 1, (7, 3))), "floor"), ((up, longer, flush, ("told", 5, "0", 1, (4, 3))), "limit"),
            ((up, limit, flush, ("heard", 5, "00", 4, (2, 5)), ("told", 5, "0", 1, (7, 3))), "floor"),
            # Between the two numbers hardly any other one lies.
            ((up, limit, ("write", ("floor", 5, 1, "", (7, 3, 3))), flush, told), "floor"), ((up, limit, ("write", ("floor", 5, 1, "", (7, 3, -9, 3))), flush, told), "floor"),
            ((up, ("heard", 5, "", 1, (2, 5, 5)), ("write", ("ceiling", 5, 1, "", (2, 5)))), "ceiling"),
            ((up, ("heard", 5, "", 1, (2, 5, 0, 5)), ("write", ("ceiling", 5, 1, "", (2, 5)))), "ceiling"),
            ((up, ("heard", 5, "", 1, (2, 0, 5)), ("write", ("ceiling", 5, 1, "", (2, -1, 5)))), "ceiling"), ((up, ("write", ("ceiling", 5, 1, "", (0, 5)))), "ceiling"),
        ):
            for name in (3, 9):
                # The same by a node whose name is above its neighbour's.
                story = (name, tuple(stories.renamed(event, 3, name) for event in events))
                self.assertIs(check_story(story), story)
                at = len(events) - 1
                self.assertEqual(story_fault(story), (at, word), story)
                self.is_net(story, at, stop_net(story, at))

    def test_a_tail_of_a_stop_alone(self):
        """What the node heard it knows by its ceiling, what it told it does not know any more."""
        story = (3, (("rise", 5), ("heard", 5, "", 1, (8, 5)), ("write", ("ceiling", 5, 1, "", (8, 5))), ("flush",), ("told", 5, "", 1, (7, 3))))
        run = (("rise", 3, 5), ("tell", 5, 3, "", 1, (8, 5)), ("come", 5, 3, ""), ("tell", 3, 5, "", 1, (7, 3)), ("come", 3, 5, ""))
        self.assertEqual(story_fault(story), (4, "floor"))
        for tail, told in (((("stop", 1),), True), ((), False), ((("flush",),), False), ((("flush",), ("stop", 1)), False), ((("stop", 1), ("stop", 1)), False),
                           ((("stop", 0),), False), ((("stop", 2),), False), ((("stop", True),), False), ((("stop", 1), ("flush",)), True)):
            self.assertIs(self.same(story, 4, (tail, run, "000000", 5)), told)
        self.assertIs(self.same(story, 4, ((("stop", 1),), run[:-1], "000000", 5)), False)
        self.assertIs(self.same(story, 3, ((("stop", 1),), run, "000000", 5)), False)

    def test_a_stop_is_the_first_of_the_tail(self):
        """Where the story itself has stopped already, what comes behind it is no net."""
        for chance, course in stories.faulty_stories(693, 25):
            story, at = stories.story_of(course), len(course.events) - 1
            if course.wrong() == "limit" and story[1][at][4] is None:
                continue
            tail, *rest = stop_net(story, at)
            for many in (1, len(tail) // 2, len(tail)):
                later = (story[0], story[1][:at + 1] + tail[:many])
                self.assertIs(check_story(later), later)
                self.assertFalse(self.same(later, len(later[1]) - 1, (tail[many:],) + tuple(rest)))
                self.assertTrue(self.same(later, at, (tail,) + tuple(rest)))

    def changed(self, chance, story, net):
        """A net of which one part is another one."""
        tail, run, address, x = net
        at, place = chance.randrange(len(tail)), chance.randrange(len(run))
        event, deed = tail[at], run[place]
        spoilt = event[:-1] + (chance.choice((None, 1, True, (5, x), (5, story[0]), 9)),)
        other = deed[:-1] + (chance.choice((None, 1, True, (5, x), "", "0")),)
        return chance.choice((
            (tail[:at] + tail[at + 1:], run, address, x), (tail[:at] + (event,) + tail[at:], run, address, x), (tail + (("flush",),), run, address, x),
            (tail[:at] + (spoilt,) + tail[at + 1:], run, address, x), (tail[:at], run, address, x), (tail + (("stop", 0),), run, address, x),
            (tail + (("rise", 31),), run, address, x), (tail + (("write", ("limit", 5)),), run, address, x), (tail + tail, run, address, x),
            (tail, run[:place] + run[place + 1:], address, x), (tail, run[:place] + (deed,) + run[place:], address, x), (tail, run[:place] + (other,) + run[place + 1:], address, x),
            (tail, run[:place], address, x), (tail, run + (("rise", 30, 31),), address, x), (tail, run + (("fall", story[0], x),), address, x),
            (tail, run, address[:-1], x), (tail, run, address[:-1] + "10"[int(address[-1])], x), (tail, run, "10"[int(address[0])] + address[1:], x), (tail, run, address + "0", x),
            (tail, run, address, story[0]), (tail, run, address, (x + 1) % 32), (tail, run, address, x == 1), (tail, run, address, None), (list(tail), run, address, x),
            (tail, list(run), address, x), [tail, run, address, x], (tail, run, address), (tail, run, address, x, x), (tail, run, x, address), (run, tail, address, x),
            (tail[1:], run, address, x), ((), run, address, x), (tail[:1], run, address, x), (tail, run[:place] + (list(deed),) + run[place + 1:], address, x),
            (tail[:at] + (list(event),) + tail[at + 1:], run, address, x), (tail[1:] + tail[:1], run, address, x),
        ))

    def test_nets_with_one_part_changed(self):
        met = {True: 0, False: 0}
        for chance, course in stories.faulty_stories(691, 60):
            story, at = stories.story_of(course), len(course.events) - 1
            if course.wrong() == "limit" and story[1][at][4] is None:
                continue
            net = stop_net(story, at)
            for _ in range(30):
                met[self.same(story, at, self.changed(chance, story, net))] += 1
            for other in (-1, at - 1, at + 1, 10 ** 6):
                self.same(story, other, net)
            # Another cut is left: the events that are needed may be others.
            for many in range(len(course.rows) + 1):
                self.same(story, at, ((("stop", many),) + net[0][1:],) + net[1:])
        self.assertGreater(min(met.values()), 60, met)

    def test_rows_that_are_needed(self):
        """A net in which a report is told without the rows that it needs is none."""
        for chance, course in stories.faulty_stories(692, 30):
            story, at = stories.story_of(course), len(course.events) - 1
            if course.wrong() == "limit" and story[1][at][4] is None:
                continue
            tail, *rest = stop_net(story, at)
            for place, event in enumerate(tail):
                if event[0] in ("write", "flush"):
                    self.same(story, at, (tail[:place] + tail[place + 1:],) + tuple(rest))
            bare = tuple(event for event in tail if event[0] not in ("write", "flush"))
            self.assertEqual(self.same(story, at, (bare,) + tuple(rest)), bare == tail)

    def test_a_net_where_the_story_has_no_fault_there(self):
        """It is asked of the events up to the index, not of the fault: with right rows there is none."""
        up = ("rise", 5)
        faulty = (3, (up, ("told", 5, "", 1, (7, 3))))
        tail, run, address, x = stop_net(faulty, 1)
        self.is_net(faulty, 1, (tail, run, address, x))
        right = (3, (up, ("write", ("floor", 5, 1, "", (7, 3))), ("write", ("limit", 1)), ("flush",), ("told", 5, "", 1, (7, 3))))
        for at in range(5):
            for many in range(3):
                self.assertIs(self.same(right, at, ((("stop", many),) + tail[1:], run, address, x)), False)

    def test_any_value(self):
        story = (3, (("rise", 5), ("told", 5, "", 1, (7, 3))))
        net = stop_net(story, 1)
        self.assertTrue(self.same(story, 1, net))
        for value in any_values():
            self.same(story, 1, value)
            for at in range(4):
                self.same(story, 1, net[:at] + (value,) + net[at + 1:])
            for at in range(len(net[0])):
                self.same(story, 1, (net[0][:at] + (value,) + net[0][at + 1:],) + net[1:])
            for at in range(len(net[1])):
                self.same(story, 1, (net[0], net[1][:at] + (value,) + net[1][at + 1:]) + net[2:])
        self.assertEqual(outcome(stop_net_serves, net=net, at=1, story=story), returned(True))

    def test_a_tail_of_120_events(self):
        story = (3, (("rise", 5), ("told", 5, "", 1, (7, 3))))
        tail, run, address, x = stop_net(story, 1)
        self.assertTrue(self.same(story, 1, (tail + (("flush",),) * (120 - len(tail)), run, address, x)))


class Worlds(unittest.TestCase):

    def started(self, chance):
        names = chance.sample(range(32), chance.choice((2, 3, 4, 6)))
        world, keepers = World(), {name: Keeper(name) for name in names}
        for one, other in itertools.combinations(names, 2):
            if chance.random() < 0.8:
                self.does(world, keepers, ("rise", one, other))
        return names, world, keepers

    def does(self, world, keepers, deed):
        """Does a deed, if its nodes take it; what comes to a node it always takes."""
        kind, one, other = deed[:3]
        if kind in ("tell", "ack"):
            event = ({"tell": "told", "ack": "acks"}[kind], other) + deed[3:]
            if outcome(keepers[one].do, event) != raised(Refused(event)):
                world.do(deed)
        elif outcome(world.do, deed) == returned(None):
            if kind in ("rise", "fall"):
                keepers[one].do((kind, other))
                keepers[other].do((kind, one))
            else:
                hearer = other if kind == "come" else one
                keepers[hearer].do(world.view(hearer)[1][-1])

    def stop(self, chance, keeper):
        """The keeper stops; any cut that may survive does."""
        course = stories.plain_story(keeper.story())
        keeper.do(("stop", chance.randint(course.flushed, len(course.rows))))

    def test_no_ring_whoever_stops_whenever(self):
        """At no instant do all the handings that the own books let close a ring, for any address."""
        let = stops = 0
        for seed in range(30):
            chance = random.Random(seed)
            names, world, keepers = self.started(chance)
            serials, stretches = drawn.Serials(chance), chance.choice((("",), ("", "01"), ("", "0", "01", "010111")))
            for _ in range(150):
                name = chance.choice(names)
                if chance.random() < 0.06:
                    stops += 1
                    self.stop(chance, keepers[name])
                elif chance.random() < 0.1:
                    # Rows that are right whatever comes: a limit ahead of its time, a floor below all that is told, a ceiling above.
                    for x in keepers[name].book().near()[:1]:
                        life = [event for event in keepers[name].story()[1] if event == ("rise", x)]
                        keepers[name].do(("write", chance.choice((("limit", chance.randrange(1, 40)), ("floor", x, len(life), chance.choice(stretches), (0, -9, name)),
                                                                  ("ceiling", x, len(life), chance.choice(stretches), None)))))
                else:
                    self.does(world, keepers, drawn.deed(chance, serials, names, world.under_way(), stretches))
                for a in ("010111", "000000"):
                    pairs = tuple((i, m) for i in names for m in keepers[i].let(a))
                    let += len(pairs)
                    self.assertIsNone(ring_in(pairs), [keepers[i].story() for i in names])
            for i in names:
                self.assertIsNone(story_fault(keepers[i].story()))
                self.assertEqual(world.view(i), stories.plain_story(keepers[i].story()).past())
        self.assertGreater(let, 2000)
        self.assertGreater(stops, 150)
