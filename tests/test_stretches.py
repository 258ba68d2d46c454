"""[11], [12], and [4] where it speaks of stretches and keys."""

import itertools
import random
import unittest

from maypoint.errors import BadStretch
from maypoint.numbers import is_below
from maypoint.stretches import check_address, check_stretch, key_of, left_out, stretch_holds, stretches_of
from tests.support import any_values, outcome, raised, returned, untouched

STRETCHES = ["".join(signs) for many in range(7) for signs in itertools.product("01", repeat=many)]
ADDRESSES = STRETCHES[-64:]


def fault_by_the_words(value, lengths):
    if type(value) is not str or len(value) not in lengths:
        return -1
    odd = [at for at in range(len(value)) if value[at] != "0" and value[at] != "1"]
    return odd[0] if odd else None


def left_by_the_words(stretch, others):
    left = [address for address in ADDRESSES if address[:len(stretch)] == stretch
            and not [other for other in others if address[:len(other)] == other]]
    return min(left) if left else None


class Form(unittest.TestCase):

    def test_all_stretches(self):
        self.assertEqual(len(STRETCHES), 127)
        for stretch in STRETCHES:
            self.assertEqual(outcome(check_stretch, stretch), returned(stretch))
            told = returned(stretch) if len(stretch) == 6 else raised(BadStretch(-1))
            self.assertEqual(outcome(check_address, stretch), told)
            self.assertEqual(outcome(check_address, value=stretch), told)

    def test_a_wrong_sign_at_each_place(self):
        for many in range(1, 7):
            for at in range(many):
                for sign in ("2", "x", " ", "\n", "-", "\u0661", "\uff10", "l"):
                    value = "01" * 3
                    value = value[:at] + sign + value[at + 1:many]
                    self.assertEqual(outcome(check_stretch, value), raised(BadStretch(at)))
                    told = raised(BadStretch(at if many == 6 else -1))
                    self.assertEqual(outcome(check_address, value), told)

    def test_several_faults(self):
        for value, at in (("01x2", 2), ("xx", 0), ("0x1x0x", 1), ("000000x", -1), ("xxxxxxx", -1), ("000002", 5)):
            self.assertEqual(outcome(check_stretch, value), raised(BadStretch(at)))
        for value, at in (("01x2", -1), ("", -1), ("0000000", -1), ("0x1x0x", 1), ("000002", 5)):
            self.assertEqual(outcome(check_address, value), raised(BadStretch(at)))

    def test_any_value(self):
        for value in any_values():
            for check, lengths in ((check_stretch, range(7)), (check_address, (6,))):
                at = fault_by_the_words(value, lengths)
                told = returned(value) if at is None else raised(BadStretch(at))
                self.assertEqual(untouched(check, value), (told, True))


class Holding(unittest.TestCase):

    def test_all_pairs(self):
        for stretch in STRETCHES:
            for address in ADDRESSES:
                told = all(stretch[at] == address[at] for at in range(len(stretch)))
                self.assertIs(stretch_holds(stretch, address), told)
        self.assertIs(stretch_holds(address="010111", stretch="01"), True)

    def test_the_empty_one_holds_all(self):
        self.assertEqual([stretch_holds("", address) for address in ADDRESSES], [True] * 64)

    def test_stretches_of(self):
        self.assertEqual(outcome(stretches_of, "100110"),
                         returned(("100110", "10011", "1001", "100", "10", "1", "")))
        for address in ADDRESSES:
            told = [stretch for stretch in STRETCHES if stretch_holds(stretch, address)]
            self.assertEqual(outcome(stretches_of, address=address), returned(tuple(told[::-1])))


class Keys(unittest.TestCase):

    def test_key_of(self):
        for stretch in STRETCHES:
            self.assertEqual(outcome(key_of, stretch, (5, -1, 2)), returned((6 - len(stretch), 5, -1, 2)))
            self.assertEqual(outcome(key_of, number=None, stretch=stretch), returned(None))

    def test_longer_stretches_go_first(self):
        numbers = ((0, 0), (7, 3), (7, 3, -5, 1), (10 ** 12, 31))
        for longer, shorter in itertools.product(stretches_of("011010"), repeat=2):
            for one, two in itertools.product(numbers, repeat=2):
                told = is_below(one, two) if longer == shorter else len(longer) > len(shorter)
                self.assertIs(is_below(key_of(longer, one), key_of(shorter, two)), told)


class Cover(unittest.TestCase):

    def test_told_cases(self):
        for stretch, others, told in (
            ("01", ("010", "011"), None), ("01", ("010", "0110", "011100"), "011101"), ("01", ("",), None),
            ("01", ("0",), None), ("01", ("01",), None), ("01", (), "010000"), ("", (), "000000"), ("", ("",), None),
            ("01", ("1", "00", "100000"), "010000"), ("01", ("010000",), "010001"), ("111111", (), "111111"),
            ("111111", ("111111",), None), ("111111", ("111110",), "111111"), ("111111", ("1",), None),
            ("01", ("011",), "010000"), ("01", ("010",), "011000"), ("", ("0", "10", "110"), "111000"),
            ("", tuple(ADDRESSES), None), ("", tuple(ADDRESSES[:-1]), "111111"), ("", tuple(ADDRESSES[1:]), "000000"),
            ("01", ("010", "010", "010"), "011000"),
        ):
            self.assertEqual(untouched(left_out, stretch, others), (returned(told), True))
            self.assertEqual(outcome(left_out, others=others, stretch=stretch), returned(told))

    def test_all_but_one(self):
        for address in ADDRESSES:
            others = tuple(other for other in ADDRESSES if other != address)
            for stretch in stretches_of(address):
                self.assertEqual(left_out(stretch, others), address)
                self.assertIsNone(left_out(stretch, others + (address,)))

    def test_against_the_words(self):
        chance = random.Random(12)
        for _ in range(3000):
            stretch = chance.choice(STRETCHES[:31])
            pool = [other for other in STRETCHES if chance.random() < 0.3 or other.startswith(stretch)]
            others = tuple(chance.choice(pool[chance.choice((0, 1, 2, 6)):]) for _ in range(chance.randrange(0, 70, 3)))
            self.assertEqual(left_out(stretch, others), left_by_the_words(stretch, others))
