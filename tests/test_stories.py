"""[67]: stories, and own books."""

import random
import unittest

from maypoint.books import Book, book_of
from maypoint.errors import BadPast, Refused
from maypoint.rows import begun_row
from maypoint.stops import check_story, started_book, story_book
from tests import plain, stories
from tests.support import any_values, has_list, outcome, raised, returned, untouched

FLOOR = ("floor", 5, 1, "", (7, 3))
CEILING = ("ceiling", 5, 1, "01", (2, 5))

# A story behind which events of every kind may come: a link that stood, one that rose since, one that fell.
STORY = (3, (
    ("rise", 5), ("rise", 7), ("told", 5, "", 2, (8, 3)), ("heard", 5, "01", 4, (2, 5)), ("fall", 7), ("write", FLOOR), ("write", CEILING),
    ("flush",), ("write", ("limit", 9)), ("told", 5, "", 6, (9, 3)), ("rise", 7), ("fall", 7), ("stop", 3), ("rise", 9),
    ("told", 9, "", 1, (4, 3)), ("heard", 9, "", 1, (4, 9)), ("told", 5, "", 12, None), ("heard", 5, "01", 6, (5, 5)), ("heard", 5, "01", 8, None),
    ("write", ("limit", 30)), ("write", ("floor", 9, 1, "", None)), ("write", ("ceiling", 9, 1, "", (4, 9))),
))

MAY = (
    ("rise", 7), ("rise", 0), ("fall", 5), ("fall", 9), ("told", 5, "", 13, (1, 3)), ("told", 5, "0", 10, None), ("told", 9, "", 2, (0, 0, 3)),
    ("told", 9, "0", 1, None), ("heard", 5, "01", 9, (2, 5)), ("heard", 5, "", 1, None), ("heard", 9, "", 3, (7, 9)), ("acks", 5, "01", 6), ("acks", 5, "01", 7),
    ("acks", 5, "01", 8), ("acks", 9, "", 1), ("backs", 5, "", 1), ("backs", 5, "", 6), ("backs", 5, "", 12), ("backs", 9, "", 1), ("flush",),
    ("stop", 3), ("stop", 4), ("stop", 5), ("stop", 6), ("write", ("limit", 1)), ("write", ("limit", 10 ** 19)), ("write", ("floor", 5, 1, "11", (3, 3))),
    ("write", ("floor", 9, 1, "", None)), ("write", ("ceiling", 5, 1, "", (0, 5))), ("write", ("ceiling", 9, 1, "010101", None)),
)
MAY_NOT = (
    ("rise", 5), ("rise", 9), ("rise", 3), ("fall", 7), ("fall", 3), ("fall", 0),
    # Not above the own row's newest serial, or the past's: where the limit is above what was told, and where not.
    ("told", 5, "", 12, None), ("told", 5, "", 7, None), ("told", 5, "0", 9, None), ("told", 5, "0", 1, (1, 3)), ("told", 9, "", 1, None),
    ("told", 5, "", 13, (1, 5)), ("told", 7, "", 13, None), ("heard", 5, "01", 8, None), ("heard", 5, "01", 4, None), ("heard", 5, "01", 9, (1, 3)),
    # Below the first serial that came since the start, though not above the last one.
    ("acks", 5, "01", 4), ("acks", 5, "01", 5), ("acks", 5, "01", 9), ("acks", 5, "", 1), ("acks", 9, "", 2), ("acks", 7, "", 1),
    ("backs", 5, "", 13), ("backs", 5, "0", 1), ("backs", 9, "", 2), ("backs", 5, "", 0), ("backs", 5, "", True),
    ("flush", 1), ("flush", ()), ("stop",), ("stop", 2), ("stop", 7), ("stop", -1), ("stop", True), ("stop", None), ("stop", "4"), ("stop", 4, 4),
    ("write",), ("write", ("limit", 0)), ("write", ("limit", 10 ** 20)), ("write", ("limit", True)), ("write", ("limit", 4), 1), ("write", ["limit", 4]),
    ("write", ("floor", 7, 2, "", None)), ("write", ("floor", 5, 2, "", None)), ("write", ("floor", 9, 2, "", None)), ("write", ("floor", 3, 1, "", None)),
    ("write", ("floor", 5, 1, "", (3, 5))), ("write", ("ceiling", 5, 1, "", (3, 3))), ("write", ("ceiling", 5, 1, "", (3, 9))), ("write", ("floor", 5, 1, "x", None)),
    ("write", ("floor", 5, True, "", None)), ("write", ("ceiling", 5, 1, "", (-1, 5))), ("write", ("roof", 5, 1, "", None)), ("write", None),
    (), ("",), None, ["flush"], [("flush",)], ("flushes",), ("stops", 3), (("flush",),), ("come", 5, 3, ""),
)


def with_event(story, event):
    return (story[0], story[1] + (event,))


class Stories(unittest.TestCase):

    def test_what_may_come_and_what_may_not(self):
        self.assertIs(check_story(STORY), STORY)
        course = stories.plain_story(STORY)
        for event in MAY:
            self.assertTrue(course.may_come(event), event)
            story = with_event(STORY, event)
            self.assertIs(check_story(story), story)
        for event in MAY_NOT:
            self.assertFalse(course.may_come(event), event)
            self.assertEqual(untouched(check_story, with_event(STORY, event)), (raised(BadPast(len(STORY[1]))), True), event)

    def test_the_first_event_that_may_not_come(self):
        for at in range(len(STORY[1])):
            story = (3, STORY[1][:at] + (None,) + STORY[1][at:] + ((),))
            self.assertEqual(outcome(check_story, story=story), raised(BadPast(at)))
            # One event left out: the first one that leans on it is told.
            story = (3, STORY[1][:at] + STORY[1][at + 1:])
            bad = stories.first_bad(story)
            self.assertEqual(outcome(check_story, story), returned(story) if bad is None else raised(BadPast(bad)))

    def test_another_value_in_each_place(self):
        course = stories.plain_story(STORY)
        for event in MAY:
            for at in range(len(event)):
                for value in any_values():
                    other = event[:at] + (value,) + event[at + 1:]
                    story = with_event(STORY, other)
                    told = returned(story) if course.may_come(other) else raised(BadPast(len(STORY[1])))
                    self.assertEqual(outcome(check_story, story), told, other)

    def test_any_value(self):
        for value in any_values():
            bad = stories.first_bad(value)
            told = returned(value) if bad is None else raised(BadPast(bad))
            self.assertEqual(untouched(check_story, value), (told, True), value)
            self.assertEqual(outcome(check_story, (3, value)), returned((3, ())) if value == () and type(value) is tuple else raised(BadPast(
                0 if type(value) is tuple else -1)))
            if not plain.is_name(value):
                self.assertEqual(outcome(check_story, (value, ())), raised(BadPast(-1)))
            story = with_event(STORY, value)
            told = returned(story) if stories.plain_story(STORY).may_come(value) else raised(BadPast(len(STORY[1])))
            self.assertEqual(outcome(check_story, story), told)
        for value in ([3, ()], (3, []), (3,), (3, (), ()), (32, ()), (-1, ()), (True, ()), ((), 3)):
            self.assertEqual(outcome(check_story, value), raised(BadPast(-1)))

    def test_chance_events(self):
        met = {True: 0, False: 0}
        for seed in range(60):
            chance = random.Random(seed)
            course = stories.story_by_chance(chance, chance.choice((2, 10, 30)), chance.choice((0, 0.5, 1)), (20, 6, 3, 3))
            for _ in range(12):
                event = stories.event(chance, course, range(32), (20, 9, 1, 6))
                story = with_event(stories.story_of(course), event)
                told = course.may_come(event)
                met[told] += 1
                self.assertEqual(outcome(check_story, story), returned(story) if told else raised(BadPast(len(course.events))), story)
        self.assertGreater(min(met.values()), 100, met)

    def test_long_stories(self):
        for seed in range(6):
            course = stories.story_by_chance(random.Random(670 + seed), 200, 0.6)
            story = stories.story_of(course)
            self.assertIs(check_story(story), story)
            self.assertEqual(stories.asked(story_book(story)), stories.asked(course.own))


class OwnBooks(unittest.TestCase):

    def test_behind_each_event(self):
        """What the last start tells and what came since, by a plain reading."""
        stops = 0
        for seed in range(40):
            chance = random.Random(seed)
            weights = chance.choice(((20, 6, 3, 3), (30, 0, 1, 1), (20, 20, 3, 3)))
            story = stories.story_of(stories.story_by_chance(chance, 50, chance.choice((0, 0.5, 1)), weights))
            course = stories.PlainStory(story[0])
            for at, event in enumerate(story[1]):
                course.sees(event)
                stops += event[0] == "stop"
                if at % 5 == 0 or event[0] in ("stop", "backs"):
                    part = (story[0], story[1][:at + 1])
                    book = story_book(story=part)
                    self.assertEqual(stories.asked(book), stories.asked(course.own), part)
                    self.assertFalse(has_list(tuple(book.row_states(x) for x in book.near())))
        self.assertGreater(stops, 60)

    def test_without_a_stop_it_is_the_book_of_the_past(self):
        for seed in range(20):
            course = stories.story_by_chance(random.Random(seed), 30, 0.7, (20, 6, 3, 0))
            book, other = story_book(stories.story_of(course)), book_of(course.past())
            self.assertIsInstance(book, Book)
            self.assertEqual(stories.asked(book), stories.asked(other))

    def test_started_by_itself(self):
        for seed in range(25):
            chance = random.Random(seed)
            course = stories.story_by_chance(chance, 40, chance.choice((0, 1)), (20, 20, 3, 0))
            cut = course.rows[:chance.randint(0, len(course.rows))]
            links = tuple((x, life) for x, life in course.true.lives.items() if x in course.true.near)
            elder = tuple((x, life) for x, life in course.true.lives.items() if x not in course.true.near)
            book = started_book(course.name, cut, links[::-1], elder)
            model = course.true.started(cut)
            self.assertEqual(stories.asked(book), stories.asked(model))
            names = links + elder
            for x in chance.sample(range(32), 4) + [x for x, life in names]:
                for event in (("rise", x), ("fall", x), ("rise", x))[x in model.near:]:
                    if x != course.name:
                        self.assertEqual(outcome(book.add_event, event), returned(None))
                        model.sees(event)
                        self.assertEqual(stories.asked(book), stories.asked(model))
        book = started_book(name=3, rows=(FLOOR, ("limit", 4)), links=((5, 1),), elder=((7, 2),))
        self.assertEqual((book.name, book.near(), book.row_states(5)), (3, (5,), (("", "out", (4, 4, ((4, (7, 3)),))),)))

    def test_each_row_begins_with_what_the_cut_tells(self):
        rows = (FLOOR, CEILING, ("limit", 9), ("limit", 4), ("floor", 5, 2, "1", (1, 3)), ("floor", 5, 1, "0", (6, 3)), ("floor", 5, 1, "0", None),
                ("ceiling", 9, 1, "", (3, 9)), ("floor", 7, 1, "", (2, 3)))
        book = started_book(3, rows, ((5, 1), (9, 2)), ((7, 1),))
        # The last row of those for x, the life and the stretch; a row of no floor begins with NONE.
        self.assertEqual(book.row_states(5), (("", "out", begun_row(9, (7, 3)).state()), ("0", "out", begun_row(9, None).state()),
                                              ("01", "in", begun_row(0, (2, 5)).state())))
        self.assertEqual((book.row_states(9), book.near()), ((), (5, 9)))
        self.assertEqual((book.v("011111", 5), book.l("011111", 5), book.v("000000", 9)), ((6, 7, 3), (4, 2, 5), None))
        # Every stretch's row begins with the limit, also one of which no row tells; a link that rises later begins with nothing.
        for event, told in ((("told", 5, "111", 9, None), False), (("told", 5, "111", 10, None), True), (("told", 9, "", 9, None), False),
                            (("told", 9, "", 10, (1, 3)), True), (("backs", 9, "", 9), False), (("backs", 9, "", 10), True), (("acks", 5, "01", 1), False),
                            (("heard", 5, "01", 1, (9, 5)), True), (("acks", 5, "01", 1), True), (("rise", 7), True), (("told", 7, "", 1, None), True)):
            self.assertEqual(outcome(book.add_event, event), returned(None) if told else raised(BadPast(0)), event)
        self.assertEqual(book.row_states(5)[2:], (("01", "in", (1, 1, ((1, (9, 5)),))), ("111", "out", (9, 10, ((10, None),)))))
        self.assertEqual(book.row_states(7), (("", "out", (0, 1, ((1, None),))),))

    def test_a_floor_and_a_ceiling_of_none(self):
        """They are rows that the cut has: the rows that they begin are told, too."""
        book = started_book(3, (("floor", 5, 1, "", None), ("ceiling", 5, 1, "0", None)), ((5, 1),), ())
        self.assertEqual(book.row_states(5), (("", "out", (0, 0, ())), ("0", "in", (0, 0, ()))))
        self.assertEqual(started_book(3, (("limit", 8),), ((5, 1),), ()).row_states(5), ())

    def test_refusals_of_an_own_book(self):
        """BadPast(0) for what its own rows refuse, and nothing changes; Refused for who is not near."""
        book = started_book(3, (FLOOR, CEILING, ("limit", 9)), ((5, 1),), ((7, 3),))
        before = stories.asked(book)
        for event in (("backs", 5, "", 9), ("backs", 5, "", 1), ("acks", 5, "01", 1), ("told", 5, "", 9, None), ("rise", 5), ("fall", 7), ("told", 7, "", 1, None),
                      ("write", ("limit", 1)), ("flush",), ("stop", 0)) + tuple(value for value in any_values() if value != ("rise", 1)):
            self.assertEqual(outcome(book.add_event, event), raised(BadPast(0)))
            self.assertEqual(stories.asked(book), before)
        for x in (3, 7, 31):
            for call in (book.row_states, lambda name: book.v("000000", name), lambda name: book.room("000000", name)):
                self.assertEqual(outcome(call, x), raised(Refused(x)))

    def test_copies(self):
        book = started_book(3, (FLOOR, CEILING, ("limit", 9)), ((5, 1),), ((7, 3),))
        other = book.copied()
        for event in (("told", 5, "", 10, (1, 3)), ("backs", 5, "", 10), ("fall", 5), ("rise", 7), ("rise", 5)):
            before = stories.asked(other)
            book.add_event(event)
            self.assertEqual(stories.asked(other), before)
            self.assertNotEqual(stories.asked(book), before)
            other.add_event(event)
            self.assertEqual(stories.asked(book), stories.asked(other))

    def test_acknowledgements_that_are_thrown_away(self):
        story = (3, (("rise", 5), ("told", 5, "", 1, (2, 3)), ("told", 5, "", 4, (9, 3)), ("write", ("limit", 4)),
                     ("write", ("floor", 5, 1, "", (2, 3))), ("stop", 2), ("told", 5, "", 6, (8, 3))))
        # Numbers up to the limit acknowledge what the own book does not know of.
        for k in (1, 2, 3, 4):
            self.assertEqual(story_book(with_event(story, ("backs", 5, "", k))).v("000000", 5), (6, 2, 3))
        for k in (5, 6):
            self.assertEqual(story_book(with_event(story, ("backs", 5, "", k))).v("000000", 5), (6, 8, 3))
        # One that was thrown away has come back: the past takes none that is not above it.
        away = with_event(story, ("backs", 5, "", 4))
        for k in (3, 4):
            self.assertEqual(outcome(check_story, with_event(away, ("backs", 5, "", k))), raised(BadPast(8)))
        self.assertEqual(story_book(with_event(away, ("backs", 5, "", 5))).v("000000", 5), (6, 8, 3))
        # A limit that is too low: the own book takes the number of a report that it does not know.
        low = (3, story[1][:3] + (("stop", 0), ("told", 5, "", 6, (8, 3)), ("backs", 5, "", 1)))
        self.assertEqual(story_book(low).row_states(5), (("", "out", (1, 6, ((6, (8, 3)),))),))

    def test_what_came_since_the_start(self):
        story = (3, (("rise", 5), ("heard", 5, "", 3, (2, 5)), ("heard", 5, "", 7, (4, 5)), ("stop", 0)))
        for k in (1, 3, 5, 7, 8):
            self.assertEqual(outcome(check_story, with_event(story, ("acks", 5, "", k))), raised(BadPast(4)))
        story = with_event(with_event(story, ("heard", 5, "", 9, (6, 5))), ("heard", 5, "", 12, (7, 5)))
        for k in range(1, 14):
            told = with_event(story, ("acks", 5, "", k))
            self.assertEqual(outcome(check_story, told), returned(told) if 9 <= k <= 12 else raised(BadPast(6)))
        # Another stretch, and a second start: what came ahead of it is no more than what came ahead of the first.
        self.assertEqual(outcome(check_story, with_event(story, ("acks", 5, "0", 9))), raised(BadPast(6)))
        self.assertEqual(outcome(check_story, with_event(with_event(story, ("stop", 0)), ("acks", 5, "", 12))), raised(BadPast(7)))
        # A link that rose since the start asks nothing of it.
        again = (3, story[1] + (("fall", 5), ("rise", 5), ("told", 5, "", 1, None), ("heard", 5, "", 1, None), ("acks", 5, "", 1)))
        self.assertIs(check_story(again), again)

    def test_true_is_no_number_of_rows(self):
        story = (3, (("write", ("limit", 1)),))
        for many, told in ((0, True), (1, True), (False, False), (True, False), (-1, False), (2, False)):
            other = with_event(story, ("stop", many))
            self.assertEqual(outcome(check_story, other), returned(other) if told else raised(BadPast(1)))

    def test_lives(self):
        """The life of a link is how often it has risen, whether it stood at a start or fell ahead of it."""
        story = (3, (("rise", 5), ("fall", 5), ("rise", 5), ("rise", 7), ("fall", 7), ("stop", 0), ("rise", 7)))
        for x, life, told in ((5, 2, True), (5, 1, False), (5, 3, False), (7, 2, True), (7, 1, False), (7, 3, False)):
            for word in ("floor", "ceiling"):
                event = ("write", (word, x, life, "", None))
                self.assertEqual(outcome(check_story, with_event(story, event)) == raised(BadPast(7)), not told)
        rows = (("write", ("floor", 5, 2, "", (4, 3))), ("write", ("floor", 7, 2, "", (5, 3))), ("stop", 2))
        book = story_book((3, story[1] + rows))
        self.assertEqual((book.v("000000", 5), book.v("000000", 7)), ((6, 4, 3), (6, 5, 3)))
        # Rows of an elder life begin nothing.
        book = story_book((3, story[1] + rows[:2] + (("fall", 5), ("rise", 5), ("fall", 7), ("stop", 2), ("rise", 7))))
        self.assertEqual((book.row_states(5), book.row_states(7)), ((), ()))
