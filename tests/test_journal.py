"""[65] and [66]."""

import random
import unittest

from maypoint.errors import BadText, Refused
from maypoint.journal import Journal, opened_journal, read_journal, row_line
from tests import plain
from tests.support import any_values, has_list, outcome, raised, returned, untouched

WIDE = 10 ** 20


def is_row(value):
    """[65], by the words."""
    if type(value) is not tuple or not value or type(value[0]) is not str:
        return False
    if value[0] == "limit":
        return len(value) == 2 and plain.is_serial(value[1]) and value[1] < WIDE
    if value[0] not in ("floor", "ceiling") or len(value) != 5:
        return False
    if not plain.is_name(value[1]) or not plain.is_serial(value[2]) or not plain.is_stretch(value[3]):
        return False
    if value[4] is not None and not plain.is_number(value[4]):
        return False
    return value[2] < WIDE and all(-WIDE < entry < WIDE for entry in value[4] or ())


def check(text):
    """The check by its sum: each sign's code times 31 as often as signs stand behind it."""
    total = sum(ord(sign) * 31 ** behind for behind, sign in enumerate(reversed(text)))
    return str(total % 9973).rjust(4, "0")


def with_check(text):
    return text + " " + check(text) + "\n"


def line(row):
    if row[0] == "limit":
        return with_check("limit " + str(row[1]))
    number = "none" if row[4] is None else ".".join(map(str, row[4]))
    return with_check(" ".join((row[0], str(row[1]), str(row[2]), "-" if row[3] == "" else row[3], number)))


def whole_by_chance(chance, least):
    figures = chance.choice((1, 1, 1, 2, 12, 19, 20))
    return max(least, chance.randrange(10 ** (figures - 1), 10 ** figures))


def number_by_chance(chance):
    if chance.random() < 0.2:
        return None
    middle = [chance.choice((1, -1)) * whole_by_chance(chance, 0) for _ in range(chance.choice((0, 0, 1, 8, 30)))]
    return (chance.choice((0, whole_by_chance(chance, 0))),) + tuple(middle) + (chance.randrange(32),)


def row_by_chance(chance):
    if chance.random() < 0.3:
        return ("limit", whole_by_chance(chance, 1))
    stretch = "".join(chance.choice("01") for _ in range(chance.randrange(7)))
    return (chance.choice(("floor", "ceiling")), chance.randrange(32), whole_by_chance(chance, 1), stretch, number_by_chance(chance))


ROWS = (
    ("limit", 1), ("limit", 10 ** 19), ("limit", WIDE - 1), ("floor", 0, 1, "", (0, 0)), ("ceiling", 31, WIDE - 1, "010101", (WIDE - 1, 1 - WIDE, 0, 31)),
    ("floor", 5, 2, "1", None), ("ceiling", 0, 9, "000000", None), ("floor", 30, 10, "01", (0,) * 11), ("ceiling", 1, 1, "", (10 ** 12, -10 ** 12, -1, 1)),
)
NO_ROWS = (
    ("limit",), ("limit", 0), ("limit", -1), ("limit", True), ("limit", WIDE), ("limit", 1, 1), ["limit", 1], ("limit", "1"), ("limit", None),
    ("limits", 1), ("Limit", 1), ("floor", 1), ("floor", 1, 1, "", None, None), ("floor", 1, 1, ""), ["floor", 1, 1, "", None],
    ("floor", 32, 1, "", None), ("floor", -1, 1, "", None), ("floor", True, 1, "", None), ("floor", 1, 0, "", None), ("floor", 1, True, "", None),
    ("floor", 1, WIDE, "", None), ("floor", 1, 1, "-", None), ("floor", 1, 1, "0101010", None), ("floor", 1, 1, "2", None), ("floor", 1, 1, None, None),
    ("ceiling", 1, 1, "", (1,)), ("ceiling", 1, 1, "", (1, 32)), ("ceiling", 1, 1, "", (-1, 1)), ("ceiling", 1, 1, "", (1, True, 1)),
    ("ceiling", 1, 1, "", (1, WIDE, 1)), ("ceiling", 1, 1, "", (1, -WIDE, 1)), ("ceiling", 1, 1, "", (WIDE, 1)), ("ceiling", 1, 1, "", [1, 1]),
    ("ceiling", 1, 1, "", "none"), ("ceiling", 1, 1, "", ()), ("roof", 1, 1, "", None), (), ("",), (None, 1), (("limit", 1),), ("write", ("limit", 1)),
)


class Lines(unittest.TestCase):

    def test_rows_of_each_kind(self):
        chance = random.Random(65)
        for row in ROWS + tuple(row_by_chance(chance) for _ in range(800)):
            self.assertTrue(is_row(row), row)
            self.assertEqual(untouched(row_line, row), (returned(line(row)), True))
            self.assertEqual(outcome(read_journal, line(row)), returned((row,)))
        self.assertEqual(outcome(row_line, row=("limit", 1)), returned(line(("limit", 1))))

    def test_values_that_are_no_rows(self):
        for value in NO_ROWS + tuple(any_values()):
            self.assertFalse(is_row(value), value)
            self.assertEqual(untouched(row_line, value), (raised(Refused(value)), True))

    def test_another_value_in_each_place(self):
        for row in ROWS:
            for at in range(len(row)):
                for value in any_values() + [WIDE, 1 - WIDE, (WIDE, 1), (1, 5), (1, -1, 5)]:
                    other = row[:at] + (value,) + row[at + 1:]
                    self.assertEqual(outcome(row_line, other), returned(line(other)) if is_row(other) else raised(Refused(other)), other)

    def test_checks_of_four_figures(self):
        """Noughts stand ahead of checks below 1000."""
        met = {len(str(int(check("limit " + str(k))))) for k in range(1, 20000)}
        self.assertEqual(met, {1, 2, 3, 4})
        for k in range(1, 20000):
            if int(check("limit " + str(k))) < 100:
                self.assertEqual(row_line(("limit", k)), line(("limit", k)))
                self.assertEqual(read_journal(line(("limit", k))), (("limit", k),))
        text = "limit 1"
        while int(check(text)) >= 1000:
            text = "limit " + str(int(text[6:]) + 1)
        short = text + " " + str(int(check(text))) + "\n"
        self.assertEqual(outcome(read_journal, short), raised(BadText(0)))


class Texts(unittest.TestCase):

    def rows(self, chance, many):
        return tuple(row_by_chance(chance) for _ in range(many))

    def test_cut_at_every_sign(self):
        chance = random.Random(66)
        for many in (0, 1, 2, 7, 60):
            rows = self.rows(chance, many) if many < 60 else ROWS[3:5] * 5 + tuple(("limit", k) for k in range(1, 51))
            text = "".join(map(line, rows))
            ends = [sum(len(line(row)) for row in rows[:at]) for at in range(many + 1)]
            for cut in range(len(text) + 1):
                whole = max(at for at, end in enumerate(ends) if end <= cut)
                self.assertEqual(outcome(read_journal, text[:cut]), returned(rows[:whole]))
            self.assertEqual(read_journal(text=text), rows)
            # What stands behind the last line feed is left out, whatever it is.
            for rest in ("x", " ", "limit", "\r", "floor 5 1 - none 0000"):
                self.assertEqual(read_journal(text + rest), rows)

    def faulty(self, chance, wrong):
        """A wrong line at any place among others: it is told, by the lines ahead of it."""
        before, behind = self.rows(chance, chance.choice((0, 1, 5))), self.rows(chance, chance.choice((0, 2)))
        text = "".join(map(line, before)) + wrong + "".join(map(line, behind))
        self.assertEqual(outcome(read_journal, text), raised(BadText(len(before))), wrong)
        # A second wrong line behind it changes nothing.
        self.assertEqual(outcome(read_journal, text + "x\n"), raised(BadText(len(before))))

    def test_one_sign_turned(self):
        chance = random.Random(67)
        signs = "0123456789 -.abcdefghijklmnopqrstuvwxyzFL\r\t\x00\u0660\u0661\u00b2\u2028\x85\x1c\ud800"
        for row in ROWS + self.rows(chance, 12):
            text = line(row)
            for at in range(len(text) - 1):
                for sign in set(signs) - {text[at]}:
                    turned = text[:at] + sign + text[at + 1:]
                    self.assertEqual(outcome(read_journal, turned), raised(BadText(0)), turned)
            self.faulty(chance, text[:3] + "x" + text[4:])

    def test_two_neighbours_changed(self):
        chance = random.Random(68)
        for row in ROWS + self.rows(chance, 200):
            text = line(row)
            for at in range(len(text) - 2):
                if text[at] != text[at + 1]:
                    changed = text[:at] + text[at + 1] + text[at] + text[at + 2:]
                    self.assertEqual(outcome(read_journal, changed), raised(BadText(0)), changed)

    def test_words_that_are_no_rows_with_their_right_check(self):
        chance = random.Random(69)
        for words in (
            "", " ", "limit", "limit ", "limit 0", "limit -1", "limit 01", "limit 00", "limit +1", "limit  1", " limit 1", "limit 1 ", "limit True", "limit 1 1",
            "limit 1.0", "limit 1_0", "limit none", "limit " + str(WIDE), "limit " + "0" * 20 + "1", "limit \u0661", "limit \u00b2", "limit 1\r", "limit\t1",
            "Limit 1", "limits 1", "floor", "floor 5 1 -", "floor 5 1 - none none", "floor 5 1  none", "floor 5 1 - ", "floor 5 1 -  none", "floor  5 1 - none",
            "floor 5 1 none", "floor 05 1 - none", "floor 32 1 - none", "floor -1 1 - none", "floor -0 1 - none", "floor 5 0 - none", "floor 5 01 - none",
            "floor True 1 - none", "floor 5 True - none", "floor 5 " + str(WIDE) + " - none", "floor 5 1 -- none", "floor 5 1 01- none", "floor 5 1 0101010 none",
            "floor 5 1 2 none", "floor 5 1 * none", "floor 5 1 - None", "floor 5 1 - NONE", "floor 5 1 - 1", "floor 5 1 - 1.", "floor 5 1 - .1", "floor 5 1 - 1..1",
            "floor 5 1 - 01.1", "floor 5 1 - 1.01", "floor 5 1 - -0.1", "floor 5 1 - 1.-0.1", "floor 5 1 - 1.-0", "floor 5 1 - -1.1", "floor 5 1 - 1.32",
            "floor 5 1 - 1.-1", "floor 5 1 - 1.+1", "floor 5 1 - 1. 1", "floor 5 1 - 1,1", "floor 5 1 - True.1", "floor 5 1 - 1.--1.1", "floor 5 1 - 1.-.1",
            "floor 5 1 - 1." + str(WIDE) + ".1", "floor 5 1 - 1.-" + str(WIDE) + ".1", "floor 5 1 - 1.-01.1", "floor 5 1 - (1, 1)", "floor 5 1 - 1.\u0661",
            "ceiling 5 1", "ceilings 5 1 - none", "roof 5 1 - none", "floor 5 1 - none " + check("floor 5 1 - none"), "limit " + "9" * 5000,
        ):
            self.faulty(chance, with_check(words))
        for words in ("limit 1", "floor 5 1 - none"):
            for end in ("", " ", " 0000", " " + check(words)[:3], " " + check(words) + " ", "  " + check(words), " 0" + check(words), check(words), " +" + check(words)[1:]):
                self.faulty(chance, words + end + "\n")
        for words in ("", "limit", "floor", "ceiling", "-", "none", "0000", "x"):
            self.faulty(chance, words + "\n")

    def test_line_feeds_alone_end_lines(self):
        for between in ("\r\n", "\r", "\x0b", "\x0c", "\x1c", "\x85", "\u2028"):
            text = line(("limit", 1))[:-1] + between + line(("limit", 2))
            self.assertEqual(outcome(read_journal, text), raised(BadText(0)))
        self.assertEqual(outcome(read_journal, line(("limit", 1)) + "\n" + line(("limit", 2))), raised(BadText(1)))

    def test_any_value(self):
        for value in any_values():
            told = raised(BadText(-1))
            if type(value) is str:
                told = raised(BadText(0)) if "\n" in value else returned(())
            self.assertEqual(untouched(read_journal, value), (told, True), value)
        self.assertEqual(outcome(read_journal, [line(("limit", 1))]), raised(BadText(-1)))

    def test_a_long_text(self):
        row = ("floor", 31, 10 ** 19, "010101", (10 ** 19,) * 5 + (31,))
        many = 20000 // len(line(row))
        self.assertEqual(read_journal(line(row) * many), (row,) * many)


class Journals(unittest.TestCase):

    def told(self, journal):
        return (journal.cuts(), [outcome(journal.rows_left, many) for many in range(-1, 12)], journal.whole_text())

    def expected(self, rows, flushed):
        left = [returned(tuple(rows[:many])) if flushed <= many <= len(rows) else raised(Refused(many)) for many in range(-1, 12)]
        return (tuple(range(flushed, len(rows) + 1)), left, "".join(map(line, rows)))

    def test_write_and_flush(self):
        chance = random.Random(660)
        for _ in range(60):
            start = tuple(row_by_chance(chance) for _ in range(chance.choice((0, 0, 3))))
            journal = opened_journal(rows=start) if start or chance.random() < 0.5 else Journal()
            rows, flushed = list(start), len(start)
            while len(rows) < 10:
                self.assertEqual(self.told(journal), self.expected(rows, flushed))
                self.assertFalse(has_list(journal.cuts()) or has_list(journal.rows_left(len(rows))))
                if chance.random() < 0.3:
                    self.assertEqual(outcome(journal.flush), returned(None))
                    flushed = len(rows)
                else:
                    row = chance.choice(ROWS + NO_ROWS)
                    if is_row(row):
                        self.assertEqual(outcome(journal.write, row=row), returned(None))
                        rows.append(row)
                    else:
                        self.assertEqual(untouched(journal.write, row), (raised(Refused(row)), True))
            self.assertEqual(start, tuple(rows[:len(start)]))

    def test_what_is_refused_changes_nothing(self):
        journal = opened_journal(ROWS[:3])
        journal.write(ROWS[3])
        before = self.told(journal)
        for value in any_values() + list(NO_ROWS):
            self.assertEqual(outcome(journal.write, value), raised(Refused(value)))
            self.assertEqual(self.told(journal), before)
        for many in (-1, 0, 2, 5, 10 ** 12):
            self.assertEqual(outcome(journal.rows_left, many=many), raised(Refused(many)))
        self.assertEqual((journal.rows_left(3), journal.rows_left(4)), (ROWS[:3], ROWS[:4]))

    def test_new_ones(self):
        for journal in (Journal(), opened_journal(())):
            self.assertEqual((journal.cuts(), journal.rows_left(0), journal.whole_text()), ((0,), (), ""))
            journal.flush()
            self.assertEqual(journal.cuts(), (0,))
        # The same row twice is two rows; two journals are two.
        journal, other = Journal(), Journal()
        for _ in range(2):
            journal.write(("limit", 4))
        self.assertEqual((journal.cuts(), journal.whole_text(), other.cuts()), ((0, 1, 2), line(("limit", 4)) * 2, (0,)))

    def test_sizes(self):
        chance = random.Random(661)
        rows = tuple(row_by_chance(chance) for _ in range(150))
        journal = Journal()
        for row in rows:
            journal.write(row)
        self.assertEqual(read_journal(journal.whole_text()), rows)
        self.assertEqual(journal.cuts(), tuple(range(151)))
