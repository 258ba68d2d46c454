"""[19] to [23], and [5], [6], [7]."""

import random
import unittest

from maypoint.books import Book, book_of, check_past
from maypoint.errors import BadPast, Refused
from tests import chance as drawn
from tests import plain
from tests.support import any_values, has_list, outcome, raised, returned, untouched

# A past of node 2 in which events of every kind may come next.
STOOD = (
    ("rise", 1), ("rise", 4), ("told", 1, "01", 3, (5, 2)), ("told", 1, "01", 5, (6, 2)), ("backs", 1, "01", 2),
    ("heard", 1, "01", 3, (5, 1)), ("heard", 1, "01", 5, None), ("acks", 1, "01", 2), ("rise", 7), ("fall", 7),
)
NEXT = (
    ("rise", 7), ("fall", 1), ("told", 1, "01", 6, (4, 2)), ("told", 1, "01", 9, None), ("told", 4, "01", 1, (4, 0, 2)),
    ("heard", 1, "01", 6, (4, 1)), ("heard", 1, "0", 1, None), ("heard", 4, "", 7, (0, -3, 4)),
    ("acks", 1, "01", 3), ("acks", 1, "01", 5), ("backs", 1, "01", 3), ("backs", 1, "01", 4), ("backs", 1, "01", 5),
)
BROKEN = (
    ("rise", 1), ("rise", 2), ("fall", 7), ("fall", 9), ("fall", 2), ("told", 7, "01", 1, (4, 2)), ("told", 2, "01", 1, (4, 2)),
    ("heard", 7, "01", 1, None), ("heard", 2, "01", 1, (4, 2)), ("acks", 7, "01", 1), ("backs", 9, "01", 1),
    ("told", 1, "01", 6, (4, 1)), ("heard", 1, "01", 6, (4, 2)), ("heard", 1, "01", 6, (4, 4)), ("told", 1, "01", 6, (2, 3)),
    ("told", 1, "01", 5, (4, 2)), ("told", 1, "01", 4, None), ("heard", 1, "01", 5, (4, 1)), ("heard", 1, "01", 1, None),
    ("told", 1, "0", 0, (4, 2)), ("heard", 1, "0", 0, (4, 1)), ("told", 1, "0", -1, (4, 2)),
    ("acks", 1, "01", 2), ("acks", 1, "01", 1), ("acks", 1, "01", 0), ("acks", 1, "01", 6), ("acks", 1, "0", 1),
    ("backs", 1, "01", 2), ("backs", 1, "01", 6), ("backs", 1, "01", 0), ("backs", 1, "", 1), ("acks", 4, "01", 3),
    ("told", 1, "0", 1, (-1, 2)), ("told", 1, "0", 1, (2,)), ("told", 1, "0", 1, [4, 2]), ("told", 1, "0", 1, (4, True, 2)),
    ("told", 1, "0000000", 1, None), ("told", 1, "2", 1, None), ("acks", 1, "x", 1), ("rise", 32), ("rise", -1), ("rise", True),
    ("rises", 7), ("rise",), (), ("",), ("rise", 7, ""), ("told", 1, "0", 1), ("acks", 1, "01", 3, None), ("fall", 1, 1),
)


def told_states(book):
    """All that can be asked of a book without an address."""
    return [(x, book.row_states(x)) for x in book.near()]


class Events(unittest.TestCase):

    def test_what_may_come(self):
        for event in NEXT:
            book = book_of((2, STOOD))
            self.assertEqual(outcome(book.add_event, event=event), returned(None))
            self.assertTrue(plain.may_come(2, list(STOOD), event))
            past = (2, STOOD + (event,))
            self.assertIs(check_past(past), past)
            self.assertEqual(told_states(book), told_states(book_of(past)))
            self.assertEqual([row[1] for row in told_states(book)],
                             [plain.row_states(list(past[1]), x) for x in book.near()])

    def test_each_condition_broken(self):
        for event in BROKEN:
            self.assertFalse(plain.may_come(2, list(STOOD), event), event)
            self.refused(event)

    def refused(self, event):
        book = book_of((2, STOOD))
        before = told_states(book)
        self.assertEqual(untouched(book.add_event, event), (raised(BadPast(0)), True), event)
        self.assertEqual(told_states(book), before)
        self.assertEqual(outcome(check_past, (2, STOOD + (event,))), raised(BadPast(len(STOOD))))
        # What is refused leaves nothing behind that bars what may come.
        for after in NEXT:
            self.assertEqual(outcome(book.copied().add_event, after), returned(None))

    def test_wrong_forms(self):
        for event in NEXT:
            for wrong in (event + (1,), event + (None,), event[:-1], list(event), (event,), [event], (event[0].upper(),) + event[1:],
                          ("",) + event[1:], (event[0] + " ",) + event[1:], ("tell",) + event[1:]):
                if not plain.may_come(2, list(STOOD), wrong):
                    self.refused(wrong)

    def test_another_value_in_each_place(self):
        book = book_of((2, STOOD))
        for event in NEXT:
            for at in range(len(event)):
                for value in any_values():
                    changed = event[:at] + (value,) + event[at + 1:]
                    fits = plain.may_come(2, list(STOOD), changed)
                    told = returned(None) if fits else raised(BadPast(0))
                    self.assertEqual(outcome(book.copied().add_event, changed), told, changed)

    def test_any_value(self):
        book = book_of((2, STOOD))
        before = told_states(book)
        for value in any_values():
            if not plain.may_come(2, list(STOOD), value):
                self.assertEqual(untouched(book.add_event, value), (raised(BadPast(0)), True))
                self.assertEqual(told_states(book), before)

    def test_a_link_that_rises_again_begins_anew(self):
        book = book_of((2, STOOD + (("fall", 1), ("rise", 1))))
        self.assertEqual((book.near(), book.row_states(1)), ((1, 4), ()))
        self.assertEqual(outcome(book.add_event, ("acks", 1, "01", 1)), raised(BadPast(0)))
        self.assertEqual(outcome(book.add_event, ("backs", 1, "01", 1)), raised(BadPast(0)))
        self.assertEqual(outcome(book.add_event, ("told", 1, "01", 1, (9, 2))), returned(None))
        self.assertEqual(outcome(book.add_event, ("heard", 1, "01", 2, (9, 1))), returned(None))
        self.assertEqual((book.v("010000", 1), book.l("010000", 1)), ((4, 9, 2), (4, 9, 1)))
        self.assertEqual(outcome(book.add_event, ("acks", 1, "01", 1)), returned(None))


class Pasts(unittest.TestCase):

    def test_pasts(self):
        for past in ((0, ()), (31, ()), (2, STOOD)):
            self.assertIs(check_past(past), past)
            self.assertIs(check_past(past=past), past)
            self.assertEqual(book_of(past=past).name, past[0])

    def test_no_pasts(self):
        for past in (None, 2, "2", (), (2,), (2, (), ()), [2, ()], (2, []), (2, None), (True, ()), (32, ()), (-1, ()),
                     ("2", ()), (None, (("rise", 1),)), ((), 2), (2, "rise")):
            self.assertEqual(untouched(check_past, past), (raised(BadPast(-1)), True))
            self.assertEqual(untouched(book_of, past), (raised(BadPast(-1)), True))

    def test_the_first_event_that_may_not_come(self):
        for at in range(len(STOOD) + 1):
            for wrong in (("rise", 2), None, ("fall", 9), ["rise", 7], ()):
                past = (2, STOOD[:at] + (wrong, None) + STOOD[at:])
                self.assertEqual(outcome(check_past, past), raised(BadPast(at)))
                self.assertEqual(outcome(book_of, past), raised(BadPast(at)))

    def test_any_value(self):
        for value in any_values():
            for past in (value, (value, ()), (2, value), (2, (value,)), (2, (("rise", 1), value, ("rise", 1)))):
                at = plain.first_fault(past)
                told = returned(past) if at is None else raised(BadPast(at))
                self.assertEqual(untouched(check_past, past), (told, True))
                if at is not None:
                    self.assertEqual(outcome(book_of, past), told)

    def test_chance_pasts_with_an_event_left_out(self):
        chance = random.Random(19)
        for _ in range(60):
            name, events = drawn.past(chance, plain.may_come, 30)
            self.assertEqual(outcome(check_past, (name, events)), returned((name, events)))
            for at in range(0, 30, 3):
                past = (name, events[:at] + events[at + 1:])
                fault = plain.first_fault(past)
                self.assertEqual(outcome(check_past, past), returned(past) if fault is None else raised(BadPast(fault)))


class Books(unittest.TestCase):

    def test_new_book(self):
        for name in (0, 31):
            book = Book(name)
            self.assertEqual((book.name, book.near(), book.up("000000"), book.let("000000")), (name, (), (), ()))
        self.assertEqual(Book(name=5).name, 5)

    def test_refused_for_every_name_that_is_not_near(self):
        book = book_of((2, STOOD))
        for x in range(32):
            told = x in (1, 4)
            for method in (book.v, book.l, book.may, book.why, book.room):
                self.assertEqual(outcome(method, "010000", x) == raised(Refused(x)), not told)
            self.assertEqual(outcome(book.row_states, x) == raised(Refused(x)), not told)
        self.assertEqual(outcome(book.v, x=2, address="010000"), raised(Refused(2)))
        self.assertEqual(outcome(book.l, x=2, address="010000"), raised(Refused(2)))
        for method in (book.may, book.why, book.room):
            self.assertEqual(outcome(method, m=7, address="010000"), raised(Refused(7)))

    def test_copies_are_apart(self):
        book = book_of((2, STOOD))
        before = told_states(book)
        for event in NEXT:
            other = book.copied()
            self.assertEqual((other.name, told_states(other)), (2, before))
            other.add_event(event)
            self.assertEqual(told_states(book), before)
            third = book.copied()
            fourth = third.copied()
            third.add_event(event)
            self.assertEqual(told_states(fourth), before)
            self.assertEqual(told_states(third), told_states(other))

    def same(self, book, events, addresses):
        """The book answers all as a plain reading of the past does."""
        names = plain.near(events)
        self.assertEqual(outcome(book.near), returned(names))
        for x in names:
            self.assertEqual(outcome(book.row_states, x), returned(plain.row_states(events, x)))
        for a in addresses:
            self.assertEqual(outcome(book.up, a), returned(plain.up(events, a)))
            self.assertEqual(outcome(book.let, address=a), returned(tuple(m for m in names if plain.may(events, a, m))))
            for x in names:
                self.assertEqual(outcome(book.v, a, x), returned(plain.v(events, a, x)))
                self.assertEqual(outcome(book.l, a, x), returned(plain.l(events, a, x)))
                self.assertEqual(outcome(book.may, a, x), returned(plain.may(events, a, x)))
                self.assertEqual(outcome(book.why, a, x), returned(plain.why(events, a, x)))
                self.assertEqual(outcome(book.room, a, x), returned(plain.room(events, a, x)))
                self.whys[book.why(a, x) and book.why(a, x)[:1] + (book.why(a, x)[1:] == (x,),)] = True

    def test_against_a_plain_reading(self):
        chance = random.Random(21)
        self.whys = {}
        for _ in range(20):
            i, book, events = 2, Book(2), []
            serials = drawn.Serials(chance)
            for x in (1, 4, 7):
                events.append(("rise", x))
                book.add_event(("rise", x))
            for _ in range(60):
                event = drawn.event(chance, serials, i, (1, 4, 7))
                if event[0] == "fall" and chance.random() < 0.7:
                    continue
                fits = plain.may_come(i, events, event)
                self.assertEqual(outcome(book.add_event, event), returned(None) if fits else raised(BadPast(0)), event)
                if fits:
                    events.append(event)
                self.same(book, events, chance.sample(plain.ADDRESSES, 2))
        # Each answer of `why` was met: none at all, m itself up, another one up, nobody up.
        self.assertEqual(set(self.whys), {None, ("up", True), ("up", False), ("none", False)})

    def test_tuples_all_through(self):
        book = book_of((2, STOOD))
        for told in (book.near(), book.row_states(1), book.v("010000", 1), book.up("010000"), book.let("010000"),
                     book.why("010000", 4), book.room("010000", 1)):
            self.assertIs(type(told), tuple)
            self.assertFalse(has_list(told))

    def test_asking_changes_nothing(self):
        book = book_of((2, STOOD))
        before = told_states(book)
        for _ in range(2):
            for a in plain.ADDRESSES:
                for x in book.near():
                    book.v(a, x), book.l(a, x), book.may(a, x), book.why(a, x), book.room(a, x)
                book.up(a), book.let(a)
        self.assertEqual(told_states(book), before)


class Rights(unittest.TestCase):

    def test_nested_stretches(self):
        book = book_of((0, (("rise", 1), ("heard", 1, "", 1, (0, 1)), ("heard", 1, "01", 1, (9, 1)), ("heard", 1, "010", 1, None))))
        self.assertEqual([book.l(a, 1) for a in ("010000", "011000", "000000")], [(4, 9, 1), (4, 9, 1), (6, 0, 1)])
        book.add_event(("acks", 1, "01", 1))
        self.assertEqual(book.l("010000", 1), (4, 9, 1))
        book.add_event(("heard", 1, "01", 2, None))
        self.assertEqual(book.l("010000", 1), (4, 9, 1))
        book.add_event(("acks", 1, "01", 2))
        self.assertEqual(book.l("010000", 1), (6, 0, 1))

    def test_up_and_let_at_the_edges(self):
        for told, heard, up, let in (
            (None, None, (), ()), ((5, 0), None, (1,), ()), (None, (5, 1), (), (1,)), ((5, 0), (5, 1), (1,), ()),
            ((5, 1, 0), (5, 1), (), (1,)), ((5, 1, -1, 0), (5, 1), (), (1,)), ((5, 0), (5, 0, 1), (1,), ()), ((6, 0), (5, 1), (), (1,)),
        ):
            book = book_of((0, (("rise", 1), ("told", 1, "", 1, told), ("heard", 1, "", 1, heard))))
            self.assertEqual((book.up("000000"), book.let("000000")), (up, let))

    def test_why_tells_the_least_name_that_bars(self):
        events = [("rise", x) for x in (1, 2, 3, 4)]
        events += [("told", 2, "", 1, (7, 0)), ("told", 3, "", 1, (4, 0)), ("told", 4, "", 1, (4, 0)), ("heard", 1, "", 1, (5, 1))]
        book = book_of((0, tuple(events)))
        self.assertEqual(book.up("000000"), (2, 3, 4))
        self.assertEqual([book.why("000000", x) for x in (1, 2, 3, 4)], [("up", 3), ("up", 2), ("up", 3), ("up", 4)])
        book.add_event(("heard", 1, "", 2, (3, 1)))
        self.assertIsNone(book.why("000000", 1))
        self.assertEqual(book_of((0, (("rise", 1), ("rise", 2), ("told", 1, "", 1, (4, 0))))).why("000000", 2), ("up", 1))

    def test_room(self):
        events = (("rise", 1), ("rise", 2), ("rise", 3), ("told", 1, "", 1, (7, 0)), ("heard", 1, "", 1, (2, 1)), ("told", 2, "", 1, (9, 0)))
        book = book_of((0, events))
        self.assertEqual([book.room("000000", x) for x in (1, 2, 3)], [(6, 7, 0), (6, 9, 0), (6, 9, 0)])
        book = book_of((0, events[:5]))
        self.assertEqual([book.room("000000", x) for x in (1, 2, 3)], [(6, 7, 0), None, None])

    def test_what_comes_in_takes_no_right_away(self):
        chance = random.Random(22)
        kept = 0
        for _ in range(120):
            past = drawn.past(chance, plain.may_come, 40)
            book = Book(past[0])
            for event in past[1]:
                before = {a: book.let(a) for a in plain.ADDRESSES}
                book.add_event(event)
                if event[0] in ("rise", "heard", "backs", "fall"):
                    for a in plain.ADDRESSES:
                        rights = [m for m in before[a] if event != ("fall", m)]
                        self.assertEqual([m for m in rights if not book.may(a, m)], [])
                        kept += len(rights)
        self.assertGreater(kept, 100)

    def test_room_and_may(self):
        chance = random.Random(23)
        for _ in range(120):
            past = drawn.past(chance, plain.may_come, 40)
            book = Book(past[0])
            for event in past[1]:
                rooms = {(a, m): book.room(a, m) for a in plain.ADDRESSES for m in book.near()}
                book.add_event(event)
                for a in plain.ADDRESSES:
                    for m in book.near():
                        heard, room = book.l(a, m), book.room(a, m)
                        self.assertIs(book.may(a, m), heard is not None and (room is None or heard < room))
                        if event[0] in ("heard", "acks") and event[1] == m:
                            self.assertEqual(room, rooms[a, m])
