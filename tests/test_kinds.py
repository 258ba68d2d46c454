"""[40]: the kinds, once more from numbers themselves."""

import itertools
import random
import unittest

from maypoint.books import book_of
from maypoint.kinds import kinds_of_m, kinds_of_x
from tests.support import has_list, outcome, returned

TELLERS = (0, 1, 1, 0, 2, 2)


def kind_of_numbers(numbers):
    """For each number how many unlike ones of the row are less."""
    there = {number for number in numbers if number is not None}
    return tuple(None if number is None else sum(other < number for other in there) for number in numbers)


def may_be(numbers):
    """Whether a book may tell l and h like this, for each teller: the last report always counts."""
    for l, h in zip(numbers[1::3], numbers[2::3]):
        if h is not None and (l is None or l > h):
            return False
    return True


def all_kinds(many):
    """The kinds of all rows of so many numbers, taken from as many unlike first entries as may be needed."""
    firsts = (None,) + tuple(range(many))
    found = {}
    for row in itertools.product(firsts, repeat=many):
        numbers = tuple(None if first is None else (first, teller) for first, teller in zip(row, TELLERS))
        if may_be(numbers):
            found[kind_of_numbers(numbers)] = True
    return found


def above_all(kind):
    return tuple(99 if rank is None else rank for rank in kind)


def numbers_with(book, x):
    """v, l and h of a neighbour for the stretch without signs, by the states of its rows."""
    states = {(p, way): state for p, way, state in book.row_states(x)}
    out = states.get(("", "out"), (0, 0, ()))[2]
    came = states.get(("", "in"), (0, 0, ()))[2]
    return (out[0][1] if out else None, came[0][1] if came else None, came[-1][1] if came else None)


class Kinds(unittest.TestCase):

    def test_kinds_of_m(self):
        kinds = tuple(sorted(all_kinds(3), key=above_all))
        self.assertEqual(len(kinds), 12)
        self.assertEqual(outcome(kinds_of_m), returned(kinds))
        self.assertEqual(kinds, (
            (0, 1, 1), (0, 1, 2), (0, 1, None), (0, None, None), (1, 0, 0), (1, 0, 2), (1, 0, None), (2, 0, 1),
            (None, 0, 0), (None, 0, 1), (None, 0, None), (None, None, None)))

    def test_kinds_of_x(self):
        found, many = {}, 0
        for row in all_kinds(6):
            found.setdefault(kind_of_numbers(row[:3]), []).append(row)
        self.assertEqual(sorted(found, key=above_all), list(kinds_of_m()))
        for kind in kinds_of_m():
            kinds = tuple(sorted(found[kind], key=above_all))
            self.assertEqual(outcome(kinds_of_x, kind=kind), returned(kinds))
            many += len(kinds)
        self.assertEqual(many, 950)
        self.assertFalse(has_list(kinds_of_x((0, 1, 2))) or has_list(kinds_of_m()))

    def test_least_and_greatest(self):
        kinds = kinds_of_x((None, None, None))
        self.assertEqual((len(kinds), kinds[0], kinds[-1]), (12, (None, None, None, 0, 1, 1), (None,) * 6))
        kinds = kinds_of_x((0, 1, 2))
        self.assertEqual((kinds[0], kinds[-1]), ((0, 1, 2, 0, 3, 3), (3, 4, 5, 2, 0, 1)))

    def test_every_kind_has_a_book(self):
        chance = random.Random(40)
        for kind in kinds_of_m():
            for rows in [(row,) for row in kinds_of_x(kind)] + [chance.choices(kinds_of_x(kind), k=30) for _ in range(4)]:
                i, *names = chance.sample(range(32), len(rows) + 2)
                book = book_of(book_of_kinds(chance, kind, rows, i, names))
                m = numbers_with(book, names[0])
                self.assertEqual(kind_of_numbers(m), kind)
                self.assertEqual([kind_of_numbers(m + numbers_with(book, x)) for x in names[1:]], list(rows))


def book_of_kinds(chance, kind, rows, i, names):
    """A past of the node i in which names[0] is of this kind and the others are of these beside it."""
    marks = sorted(chance.sample(range(100, 10 ** 6, 100), 3))
    events = play(chance, i, names[0], [None if rank is None else marks[rank] for rank in kind])
    for x, row in zip(names[1:], rows):
        places, base = {}, 0
        for rank in range(6):
            own = [kind[at] for at in range(3) if row[at] == rank]
            base = marks[own[0]] if own else base + chance.randrange(1, 30)
            places[rank] = base
        events += play(chance, i, x, [None if rank is None else places[rank] for rank in row[3:]])
    return (i, tuple(events))


def play(chance, i, x, firsts):
    """Events with a neighbour behind which v, l and h begin so; much else that counts no more or changes nothing."""
    v, l, h = firsts
    events, serial = [("rise", x)], chance.randrange(1, 9)
    if chance.random() < 0.3:
        events += [("told", x, "", serial, (0, i)), ("told", x, "", serial + 1, None), ("backs", x, "", serial + 1)]
    if v is not None:
        events += [("told", x, "", serial + 2, (v, i)), ("told", x, "", serial + 3, (v + 5, i))][:chance.randrange(1, 3)]
    if chance.random() < 0.3:
        events += [("heard", x, "", serial, (0, x)), ("heard", x, "", serial + 1, None), ("acks", x, "", serial + 1)]
    if l is not None:
        again = [(h, serial + 4)] if h != l or chance.random() < 0.4 else []
        for first, k in [(l, serial + 2)] + again:
            events.append(("heard", x, "", k, None if first is None else (first, x)))
    if chance.random() < 0.3:
        events += [("told", x, "0", 1, (0, i)), ("heard", x, "010", 4, (1, x))]
    return events

