"""[16] to [18]."""

import itertools
import random
import unittest

from maypoint.errors import BadRow, Refused
from maypoint.rows import Row, begun_row, row_of
from tests.plain import PlainRow, below, is_number, is_whole
from tests.support import any_values, has_list, outcome, raised, returned, untouched

NUMBERS = ((3, 1), (4, 1), (4, 0, 1), (5, 2), None)


def fault_by_the_words(state):
    """The `at` of [18], in its order; None for a state."""
    if type(state) is not tuple or len(state) != 3 or type(state[2]) is not tuple:
        return -1
    first, last, falls = state
    if not is_whole(first) or first < 0:
        return 0
    if not is_whole(last) or last < first:
        return 1
    if falls == () and last > 0:
        return 1
    for place, fall in enumerate(falls):
        at = 2 + place
        if type(fall) is not tuple or len(fall) != 2 or not is_whole(fall[0]) or fall[0] < 0:
            return at
        if fall[1] is not None and not is_number(fall[1]):
            return at
        if place == 0 and (fall[0] < first or fall[0] == 0 and not (first == 0 and fall[1] is not None)):
            return at
        if place > 0 and (fall[0] <= falls[place - 1][0] or not below(falls[place - 1][1], fall[1])):
            return at
        if place == len(falls) - 1 and fall[0] != last:
            return at
    return None


class Rows(unittest.TestCase):

    def alike(self, row, plain):
        """The row answers all that it may be asked as the list does."""
        self.assertEqual(outcome(row.state), returned(plain.state()))
        self.assertEqual(outcome(row.least), returned(plain.least()))
        self.assertEqual(outcome(row.newest), returned(plain.newest()))
        for k in range(-1, plain.last + 3):
            told = returned(plain.since(k)) if plain.may_ask_since(k) else raised(Refused(k))
            self.assertEqual(outcome(row.since, k), told)
        self.assertFalse(has_list(row.state()))

    def step(self, chance, row, plain):
        """Some report or acknowledgement for both, also such as are refused."""
        if chance.random() < 0.6:
            serial, number = plain.last + chance.choice((1, 1, 2, 4, 0, -1)), chance.choice(NUMBERS)
            serial = max(serial, 0)
            told, taken = outcome(row.told, serial, number), plain.told(serial, number)
        else:
            serial = chance.choice((plain.first, plain.first + 1, plain.last, plain.last + 1, plain.last - 1, 0))
            told, taken = outcome(row.acked, serial), plain.acked(serial)
        self.assertEqual(told, returned(None) if taken else raised(Refused(serial)))

    def test_new_row(self):
        self.alike(Row(), PlainRow())
        self.assertEqual(Row().state(), (0, 0, ()))

    def test_serials_just_within_and_beyond(self):
        row = Row()
        for serial, told in ((0, False), (3, True), (3, False), (2, False), (4, True), (10 ** 12, True), (4, False)):
            state = row.state()
            expected = returned(None) if told else raised(Refused(serial))
            self.assertEqual(outcome(row.told, serial=serial, number=(5, 1)), expected)
            if not told:
                self.assertEqual(row.state(), state)

    def test_acknowledgements_just_within_and_beyond(self):
        row = Row()
        self.assertEqual(outcome(row.acked, 0), raised(Refused(0)))
        self.assertEqual(outcome(row.acked, 1), raised(Refused(1)))
        row.told(3, (5, 1))
        row.told(7, (6, 1))
        for k, told in ((0, False), (8, False), (1, True), (1, False), (5, True), (4, False), (7, True), (7, False)):
            state = row.state()
            self.assertEqual(outcome(row.acked, k=k), returned(None) if told else raised(Refused(k)))
            if not told:
                self.assertEqual(row.state(), state)
        self.assertEqual(row.state(), (7, 7, ((7, (6, 1)),)))

    def test_since_just_within_and_beyond(self):
        row = Row()
        self.assertEqual(outcome(row.since, 0), raised(Refused(0)))
        self.assertEqual(outcome(row.since, 1), raised(Refused(1)))
        for serial, number in ((2, (5, 1)), (4, None), (6, (7, 1))):
            row.told(serial, number)
        row.acked(2)
        answers = [outcome(row.since, k=k) for k in range(8)]
        self.assertEqual(answers, [raised(Refused(0)), raised(Refused(1)), returned((5, 1))]
                         + [returned((7, 1))] * 4 + [raised(Refused(7))])

    def test_a_number_below_the_acknowledged_serial_counts_no_more(self):
        row = Row()
        row.told(1, (3, 1))
        row.told(2, (5, 1))
        self.assertEqual((row.least(), row.newest()), ((3, 1), (5, 1)))
        row.acked(1)
        self.assertEqual(row.least(), (3, 1))
        row.acked(2)
        self.assertEqual(row.least(), (5, 1))

    def test_all_short_rows(self):
        for many in range(5):
            for numbers in itertools.product(NUMBERS, repeat=many):
                row, plain = Row(), PlainRow()
                for at, number in enumerate(numbers):
                    row.told(2 * at + 1, number)
                    plain.told(2 * at + 1, number)
                self.alike(row, plain)
                for k in range(1, 2 * many, 2):
                    row.acked(k)
                    plain.acked(k)
                    self.alike(row, plain)

    def test_chance_rows(self):
        chance = random.Random(16)
        for _ in range(300):
            row, plain = Row(), PlainRow()
            for _ in range(25):
                self.step(chance, row, plain)
                self.alike(row, plain)

    def test_begun_rows(self):
        chance = random.Random(18)
        for serial in (0, 1, 2, 9):
            for number in NUMBERS:
                for _ in range(20):
                    row = begun_row(serial, number)
                    reports = [] if serial == 0 and number is None else [(serial, number)]
                    plain = PlainRow(reports, serial, serial)
                    self.alike(row, plain)
                    for _ in range(12):
                        self.step(chance, row, plain)
                        self.alike(row, plain)
        self.assertEqual(begun_row(number=None, serial=0).state(), Row().state())
        self.assertEqual(begun_row(number=(4, 2), serial=3).state(), (3, 3, ((3, (4, 2)),)))
        self.assertEqual(begun_row(5, None).state(), (5, 5, ((5, None),)))

    def test_a_begun_report_counts_until_a_greater_number_is_acknowledged(self):
        row = begun_row(0, (4, 2))
        row.told(3, (6, 1))
        self.assertEqual((row.least(), row.since(1)), ((4, 2), (6, 1)))
        row.acked(1)
        self.assertEqual((row.least(), row.state()), ((6, 1), (1, 3, ((3, (6, 1)),))))

    def test_copies_go_on_alike_and_apart(self):
        chance = random.Random(17)
        for _ in range(200):
            row, plain = Row(), PlainRow()
            for _ in range(chance.randrange(8)):
                self.step(chance, row, plain)
            others = [row.copied(), row_of(row.state()), row.copied().copied()]
            for other in others:
                twin = PlainRow(plain.reports, plain.first, plain.last)
                for _ in range(8):
                    self.step(chance, other, twin)
                    self.alike(other, twin)
                    self.alike(row, plain)
            other, twin = row.copied(), PlainRow(plain.reports, plain.first, plain.last)
            for _ in range(4):
                self.step(chance, row, plain)
                self.alike(other, twin)
                self.alike(row, plain)

    def parted(self, one, two):
        """Whether something is taken, refused or answered unlike, by the proof of [18]."""
        most = max(one.state()[1], two.state()[1]) + 2
        if (one.least(), one.newest()) != (two.least(), two.newest()):
            return True
        for k in range(most):
            for ask in (lambda row: row.since(k), lambda row: row.copied().acked(k), lambda row: row.copied().told(k, None)):
                if outcome(ask, one) != outcome(ask, two):
                    return True
        return False

    def test_unlike_states_are_parted_and_equal_ones_never(self):
        chance, rows = random.Random(19), []
        for _ in range(120):
            row, plain = chance.choice((Row(), begun_row(0, (4, 2)), begun_row(2, (3, 1)), begun_row(2, None))), PlainRow()
            for _ in range(chance.randrange(6)):
                outcome(row.told, chance.randrange(1, 5), chance.choice(NUMBERS))
                outcome(row.acked, chance.randrange(1, 5))
            rows.append(row)
        met = {True: 0, False: 0}
        for one, two in itertools.combinations(rows, 2):
            same = one.state() == two.state()
            met[same] += 1
            self.assertEqual(self.parted(one, two), not same, (one.state(), two.state()))
        self.assertGreater(min(met.values()), 100, met)

    def test_equal_states_answer_alike(self):
        one, two = Row(), Row()
        for serial, number in ((1, (9, 1)), (2, (5, 1)), (3, None), (4, (5, 1))):
            one.told(serial, number)
        two.told(4, (5, 1))
        self.assertEqual(one.state(), two.state())


class RowOf(unittest.TestCase):

    def test_states_made_again(self):
        for state in (
            (0, 0, ()), (0, 0, ((0, (4, 2)),)), (0, 3, ((0, (4, 2)), (3, (6, 1)))), (0, 3, ((3, None),)),
            (2, 9, ((9, (5, 3)),)), (0, 6, ((4, (5, 3)), (6, None))), (5, 5, ((5, None),)), (0, 1, ((0, (4, 2)), (1, None))),
            (1, 10 ** 12, ((1, (0, 0)), (10 ** 12, (0, 0, 0)))),
        ):
            row = row_of(state)
            self.assertIs(type(row), Row)
            self.assertEqual(outcome(row.state), returned(state))
            self.assertEqual(row_of(state=state).state(), state)

    def test_told_faults(self):
        number = (5, 3)
        for state, at in (
            (None, -1), ([0, 0, ()], -1), ((0, 0), -1), ((0, 0, (), ()), -1), ((0, 0, []), -1), ((0, 0, None), -1),
            (("x", "x", [0]), -1), ((-1, 0, ()), 0), ((True, 1, ((1, number),)), 0), ((None, None, (None,)), 0),
            ((0, -1, ()), 1), ((2, 1, ((1, number),)), 1), ((0, True, ((1, number),)), 1), ((0, None, ()), 1),
            ((0, 1, ()), 1), ((1, 1, ()), 1), ((3, 2, (None,)), 1), ((0, 1, (None,)), 2), ((0, 1, ([1, number],)), 2),
            ((0, 1, ((1,),)), 2), ((0, 1, ((1, number, 0),)), 2), ((0, 1, ((True, number),)), 2), ((0, 0, ((-1, number),)), 2),
            ((0, 1, ((1, (5,)),)), 2), ((0, 1, ((1, (5, 32)),)), 2), ((0, 1, ((1, (-1, 3)),)), 2), ((0, 1, ((1, [5, 3]),)), 2),
            ((2, 3, ((1, number), (3, (6, 3)))), 2), ((0, 0, ((0, None),)), 2), ((0, 2, ((0, None), (2, None))), 2),
            ((1, 1, ((0, number),)), 2), ((0, 2, ((1, number),)), 2), ((0, 1, ((2, number),)), 2), ((0, 0, ((1, number),)), 2),
            ((0, 2, ((2, number), (2, (6, 3)))), 3), ((0, 3, ((2, number), (3, number))), 3), ((0, 3, ((2, None), (3, None))), 3),
            ((0, 3, ((2, None), (3, number))), 3), ((0, 3, ((2, (6, 3)), (3, number))), 3), ((0, 3, ((3, number), (2, (6, 3)))), 3),
            ((0, 4, ((2, number), (3, (6, 3)))), 3), ((0, 3, ((1, number), (4, (6, 3)), (3, (7, 3)))), 4),
            ((0, 3, ((1, number), (2, (6, 3)), (3, 7))), 4), ((0, 3, ((1, number), "x", None)), 3), ((0, 3, ((1, number), ())), 3),
            ((0, 9, ((10, number), (11, (6, 3)))), 3), ((0, 5, ((0, number), (0, (6, 3)), (5, None))), 3),
        ):
            self.assertEqual(fault_by_the_words(state), at, state)
            self.assertEqual(untouched(row_of, state), (raised(BadRow(at)), True), state)

    def test_all_small_values(self):
        falls = [(serial, number) for serial in (-1, 0, 1, 2, True) for number in ((3, 1), (4, 1), None, (4, 32))]
        rows = [()] + [(one,) for one in falls] + list(itertools.product(falls, repeat=2))
        for first, last in itertools.product((-1, 0, 1, 2, False), repeat=2):
            for row in rows:
                self.check((first, last, row))

    def test_any_value(self):
        for value in any_values():
            for state in (value, (value, 1, ((1, (5, 3)),)), (0, value, ((1, (5, 3)),)), (0, 1, value), (0, 1, (value,)),
                          (0, 1, ((value, (5, 3)),)), (0, 1, ((1, value),)), (0, 3, ((1, (5, 3)), value)),
                          (0, 3, ((1, (5, 3)), (3, value))), (0, 3, ((1, (5, 3)), (value, None)))):
                self.check(state)

    def check(self, state):
        at = fault_by_the_words(state)
        if at is None:
            self.assertEqual(outcome(row_of(state).state), returned(state))
        else:
            self.assertEqual(untouched(row_of, state), (raised(BadRow(at)), True), state)
