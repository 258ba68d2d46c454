"""[8] to [10], and [0] and [4] where they speak of numbers."""

import itertools
import random
import unittest

from maypoint.errors import BadNumber, Refused
from maypoint.numbers import check_number, is_below, least_of, number_between
from maypoint.stretches import key_of
from tests.support import any_values, has_list, outcome, raised, returned, untouched


def fault_by_the_words(value):
    """Where [8] says that the fault is, in its own order; None for a number."""
    if type(value) is not tuple or len(value) < 2:
        return -1
    odd = [at for at in range(len(value)) if type(value[at]) is not int]
    if odd:
        return odd[0]
    if value[0] < 0:
        return 0
    return None if value[-1] in range(32) else len(value) - 1


def below_by_the_words(one, two):
    """[9], entry by entry."""
    if one is None:
        return False
    if two is None:
        return True
    for left, right in zip(one, two):
        if left != right:
            return left < right
    return len(one) < len(two)


ROWS = [row for many in (2, 3, 4) for row in itertools.product((0, 1, 2), repeat=many)]


class Form(unittest.TestCase):

    def test_numbers(self):
        for number in ((0, 0), (0, 31), (10 ** 12, -10 ** 12, 0), (5, -1, -1, 7), (0,) * 140):
            self.assertIs(check_number(number), number)
            self.assertIs(check_number(value=number), number)

    def test_each_fault_alone(self):
        for value, at in (
            ([0, 0], -1), ("00", -1), (None, -1), (7, -1), (True, -1), ((), -1), ((5,), -1), ((-5,), -1),
            (("x", 0), 0), ((5, None), 1), ((5, True), 1), ((False, 0), 0), ((5, (1, 2)), 1), ((5, 2, [3], 4), 2),
            ((5, 1, 1, "0"), 3), ((-1, 0), 0), ((-1, 5, 5, 5), 0), ((5, 32), 1), ((5, -1), 1), ((5, 0, 0, 32), 3),
        ):
            self.assertEqual(outcome(check_number, value), raised(BadNumber(at)), value)

    def test_several_faults(self):
        for value, at in (
            ((-1, True, 32), 1), ((-1, 32), 0), ((-1, "x"), 1), ((None, None), 0), ((4, True, 32), 1),
            ((-1,), -1), ([-1, True], -1), ((-1, 3, None, 32), 2),
        ):
            self.assertEqual(outcome(check_number, value), raised(BadNumber(at)), value)

    def test_all_short_rows(self):
        entries = (-1, 0, 1, 31, 32, True, None, "0", (0, 1))
        for many in range(5):
            for value in itertools.product(entries, repeat=many):
                at = fault_by_the_words(value)
                told = returned(value) if at is None else raised(BadNumber(at))
                self.assertEqual(outcome(check_number, value), told)

    def test_any_value(self):
        for value in any_values():
            at = fault_by_the_words(value)
            told = returned(value) if at is None else raised(BadNumber(at))
            self.assertEqual(untouched(check_number, value), (told, True))


class Order(unittest.TestCase):

    def test_told_cases(self):
        for one, two, told in (
            ((5, 2), (5, 2), False), ((5, 2), (5, 2, 0), True), ((5, 2, 0), (5, 2), False),
            ((5, 2), (5, 2, -9), True), ((5, 2), (6, 1), True), ((5, 2), (5, 1, 9), False), ((9, 9), None, True),
            (None, (0, 0), False), (None, None, False), ((10, 0), (9, 31), False), ((2, -3, 1), (2, -2, 1), True),
        ):
            self.assertEqual(outcome(is_below, one, two), returned(told))
            self.assertEqual(outcome(is_below, two=two, one=one), returned(told))

    def test_against_the_words(self):
        for one in ROWS + [None]:
            for two in ROWS + [None]:
                self.assertIs(is_below(one, two), below_by_the_words(one, two))

    def test_keys(self):
        keys = [key_of(stretch, number) for stretch in ("", "0", "01") for number in ((0, 1), (0, 1, 1), (3, 2), None)]
        for one in keys:
            for two in keys:
                self.assertIs(is_below(one, two), below_by_the_words(one, two))

    def test_exactly_one_of_three(self):
        for one in ROWS:
            for two in ROWS:
                self.assertEqual([one == two, is_below(one, two), is_below(two, one)].count(True), 1)

    def test_goes_on(self):
        rows = ROWS[::4]
        for one, two, three in itertools.product(rows, repeat=3):
            if is_below(one, two) and is_below(two, three):
                self.assertTrue(is_below(one, three))

    def test_least_of(self):
        for row, told in (
            ((), None), ((None,), None), ((None, None), None), (((5, 1),), (5, 1)), ((None, (5, 1)), (5, 1)),
            (((5, 1), None), (5, 1)), (((5, 3), (5, 1, 2), (5, 1)), (5, 1)), (((5, 1), (5, 1)), (5, 1)),
            (((4, 5, 2), (6, 0, 1), None), (4, 5, 2)), (((2, -1, 3), (2, -2, 3), (2, 0, 3)), (2, -2, 3)),
        ):
            self.assertEqual(outcome(least_of, row), returned(told))
            self.assertEqual(outcome(least_of, row=row), returned(told))

    def test_least_of_long_rows(self):
        chance = random.Random(9)
        for _ in range(200):
            row = tuple(chance.choice(ROWS + [None] * 9) for _ in range(60))
            least = least_of(row)
            self.assertIn(least, row)
            self.assertFalse([entry for entry in row if below_by_the_words(entry, least)])


class Between(unittest.TestCase):

    def test_told_cases(self):
        for low, high, name, told in (
            ((5, 2), None, 7, (6, 7)), ((0, 0), None, 0, (1, 0)), ((5, -2, 3), None, 31, (6, 31)),
            ((5, 2), (5, 2, 0), 7, (5, 2, -1, 7)), ((5, 2), (5, 2, 9, 1), 2, (5, 2, 8, 2)),
            ((5, 2), (5, 3), 7, (5, 2, 0, 7)), ((5, 2, 9), (5, 3), 7, (5, 2, 9, 0, 7)), ((5, 2), (6, 1), 2, (5, 2, 0, 2)),
            ((4, -1, 3), (4, 0), 0, (4, -1, 3, 0, 0)),
        ):
            self.assertEqual(outcome(number_between, low, high, name), returned(told))
            self.assertEqual(outcome(number_between, name=name, high=high, low=low), returned(told))

    def test_refused(self):
        for low, high in (
            ((5, 2), (5, 2)), ((5, 3), (5, 2)), ((5, 2, 0), (5, 2)), (None, (5, 2)), (None, None), ((6, 0), (5, 31)),
        ):
            self.assertEqual(untouched(number_between, low, high, 7), (raised(Refused(low)), True))

    def test_refused_exactly_where_not_below(self):
        for low in ROWS + [None]:
            for high in ROWS + [None]:
                told = outcome(number_between, low, high, 3)
                if not below_by_the_words(low, high):
                    self.assertEqual(told, raised(Refused(low)))
                    continue
                made = number_between(low, high, 3)
                self.assertEqual(made[-1], 3)
                self.assertTrue(below_by_the_words(low, made) and below_by_the_words(made, high))

    def test_as_often_as_one_likes(self):
        chance = random.Random(10)
        for _ in range(60):
            low, high = sorted(chance.sample(ROWS, 2))
            if chance.random() < 0.2:
                high = None
            for _ in range(60):
                name = chance.randrange(32)
                made = check_number(number_between(low, high, name))
                self.assertEqual(made[-1], name)
                self.assertTrue(below_by_the_words(low, made) and below_by_the_words(made, high))
                self.assertFalse(has_list(made))
                if chance.random() < 0.5:
                    low = made
                else:
                    high = made

    def test_long_numbers(self):
        low = (10 ** 12,) + (-10 ** 12,) * 138 + (1,)
        made = number_between(low, low + (-10 ** 12, 3), 4)
        self.assertEqual(made, low + (-10 ** 12 - 1, 4))
