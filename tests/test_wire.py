"""[13] to [15]."""

import random
import unittest

from maypoint.errors import BadOctets
from maypoint.wire import decode_letter, decode_stream, encode_letter, encode_stream
from tests.support import any_values, has_list, outcome, raised, returned, untouched

EDGES = (0, 1, 62, 63, 64, 127, 128, 129, 255, 256, 8191, 8192, 16383, 16384, 16385, 2097151, 2097152, 10 ** 40)


def groups(whole):
    """[13], word by word."""
    if whole <= 127:
        return (whole,)
    return (128 + whole % 128,) + groups(whole // 128)


def stretch_octet(stretch):
    return (2 ** len(stretch)) + sum(2 ** place for place, sign in enumerate(reversed(stretch)) if sign == "1")


def form(letter):
    """The form of a letter by the words of [13]."""
    octets = ({"report": 0, "ack": 1, "mail": 2}[letter[0]], stretch_octet(letter[1]))
    if letter[0] == "mail":
        return octets + (len(letter[2]),) + letter[2]
    octets += groups(letter[2])
    if letter[0] == "ack":
        return octets
    if letter[3] is None:
        return octets + (0,)
    octets += (len(letter[3]),) + groups(letter[3][0])
    for entry in letter[3][1:]:
        octets += groups(2 * entry if entry >= 0 else -2 * entry - 1)
    return octets


def is_letter(letter):
    if letter[0] == "mail":
        return len(letter[1]) == 6 and len(letter[2]) <= 40
    if letter[2] < 1 or len(letter[1]) > 6:
        return False
    if letter[0] == "ack":
        return True
    return letter[3] is None or 2 <= len(letter[3]) <= 14 and 0 <= letter[3][-1] <= 31


def take_groups(items):
    whole, unit = 0, 1
    while True:
        item = items.pop(0)
        whole += item % 128 * unit
        unit *= 128
        if item < 128:
            return whole


def lenient(octets):
    """What octets may mean, without a look at whether they are a form; errors where they are too few."""
    items = list(octets)
    kind = ("report", "ack", "mail")[items.pop(0)]
    stretch = bin(items.pop(0))[3:]
    if kind == "mail":
        many = items.pop(0)
        return (kind, stretch, tuple(items[:many])), octets[:3 + many]
    serial = take_groups(items)
    if kind == "ack":
        return (kind, stretch, serial), octets[:len(octets) - len(items)]
    many = items.pop(0)
    number = [take_groups(items) for _ in range(many)]
    number = number[:1] + [-(code + 1) // 2 if code % 2 else code // 2 for code in number[1:]]
    return (kind, stretch, serial, tuple(number) if many else None), octets[:len(octets) - len(items)]


def letter_ahead(octets):
    """The letter whose form the octets begin with, and that form; None if there is none."""
    if any(type(item) is not int or not 0 <= item <= 255 for item in octets):
        good = [at for at, item in enumerate(octets) if type(item) is not int or not 0 <= item <= 255]
        octets = octets[:good[0]]
    try:
        letter, whole = lenient(octets)
    except IndexError:
        return None
    if is_letter(letter) and form(letter) == whole:
        return letter, whole
    return None


# Whatever part a form breaks off in: ones end groups and serials, zeros are whatever else is lacking.
ENDS = [(1,) * ones + (0,) * zeros for ones in range(4) for zeros in range(42)] + [(64, 0)]


def begins_a_form(octets):
    """Whether some items behind these make them the form of a letter."""
    if any(type(item) is not int or not 0 <= item <= 255 for item in octets):
        return False
    for end in ENDS:
        found = letter_ahead(octets + end)
        if found is not None and found[1] == octets + end:
            return True
    return False


def fault(octets):
    """The index that [14] asks for; None for the form of a letter."""
    found = letter_ahead(octets)
    if found is not None:
        return len(found[1]) if len(found[1]) < len(octets) else None
    # What begins no form goes on to begin none, so the place can be halved in.
    low, high = 0, len(octets) + 1
    while high - low > 1:
        middle = (low + high) // 2
        if begins_a_form(octets[:middle]):
            low = middle
        else:
            high = middle
    return low


def stream_told(octets):
    """What [15] says of items."""
    letters, at = [], 0
    while True:
        found = letter_ahead(octets[at:])
        if found is None:
            wrong = fault(octets[at:])
            if at + wrong < len(octets):
                return raised(BadOctets(at + wrong))
            return returned((tuple(letters), octets[at:]))
        letters.append(found[0])
        at += len(found[1])


def one_told(octets):
    at = fault(octets)
    return returned(letter_ahead(octets)[0]) if at is None else raised(BadOctets(at))


def letters():
    """Letters of every kind, at every edge."""
    rows = []
    stretches = ("", "0", "1", "01", "00000", "000000", "111111", "010110")
    for stretch in stretches:
        rows += [("report", stretch, 1, None), ("ack", stretch, 1), ("report", stretch, 7, (3, 0))]
        if len(stretch) == 6:
            rows += [("mail", stretch, ()), ("mail", stretch, (0,)), ("mail", stretch, (255, 0, 128))]
    for whole in EDGES:
        if whole:
            rows += [("ack", "01", whole), ("report", "", whole, None), ("report", "1", whole, (whole, -whole, 31))]
        rows += [("report", "01", 3, (whole, 31)), ("report", "01", 3, (0, whole, 5)), ("report", "01", 3, (0, -whole, 5))]
    rows += [("report", "", 5, (9,) + (-1,) * 12 + (31,)), ("report", "", 5, (0,) * 14), ("report", "0", 5, (0, 0))]
    rows += [("report", "", 5, (9, name)) for name in range(32)]
    rows += [("mail", "000000", tuple(range(100, 140))), ("mail", "101010", (0,) * 40), ("mail", "101010", (0,) * 39)]
    return rows


def chance_letter(chance):
    size = 2 ** chance.choice((1, 3, 7, 8, 14, 15, 40, 300))
    kind = chance.randrange(4)
    if kind == 0:
        return ("mail", bin(64 + chance.randrange(64))[3:], tuple(chance.randrange(256) for _ in range(chance.randrange(41))))
    stretch = bin(1 + chance.randrange(127))[3:]
    if kind == 1:
        return ("ack", stretch, 1 + chance.randrange(size))
    number = (chance.randrange(size),) + tuple(chance.randrange(-size, size) for _ in range(chance.randrange(13)))
    return ("report", stretch, 1 + chance.randrange(size), number + (chance.randrange(32),) if kind == 2 else None)


class Encoding(unittest.TestCase):

    def test_told_forms(self):
        for letter, told in (
            (("report", "", 1, None), (0, 1, 1, 0)), (("ack", "111111", 127), (1, 127, 127)),
            (("ack", "0", 128), (1, 2, 128, 1)), (("ack", "01", 16383), (1, 5, 255, 127)),
            (("ack", "01", 16384), (1, 5, 128, 128, 1)), (("report", "1", 2, (128, -1, 0, 31)), (0, 3, 2, 4, 128, 1, 1, 0, 62)),
            (("report", "1", 2, (0, 64, -64, -65, 0)), (0, 3, 2, 5, 0, 128, 1, 127, 129, 1, 0)),
            (("mail", "000000", ()), (2, 64, 0)), (("mail", "111111", (255, 0)), (2, 127, 2, 255, 0)),
        ):
            self.assertEqual(outcome(encode_letter, letter), returned(told))
            self.assertEqual(outcome(encode_letter, letter=letter), returned(told))
            self.assertEqual(outcome(decode_letter, told), returned(letter))
            self.assertEqual(outcome(decode_letter, octets=told), returned(letter))

    def test_by_the_words(self):
        for letter in letters():
            self.assertEqual(untouched(encode_letter, letter), (returned(form(letter)), True))
        chance = random.Random(13)
        for _ in range(500):
            letter = chance_letter(chance)
            self.assertEqual(outcome(encode_letter, letter), returned(form(letter)))

    def test_no_form_begins_another(self):
        forms = sorted({encode_letter(letter) for letter in letters()})
        self.assertEqual(len(forms), len(set(letters())))
        for one, two in zip(forms, forms[1:]):
            self.assertNotEqual(two[:len(one)], one)

    def test_streams(self):
        self.assertEqual(outcome(encode_stream, ()), returned(()))
        rows = tuple(letters())
        told = tuple(octet for letter in rows for octet in form(letter))
        self.assertEqual(outcome(encode_stream, rows), returned(told))
        self.assertEqual(outcome(encode_stream, letters=rows[:3]), returned(sum(map(form, rows[:3]), ())))


class Decoding(unittest.TestCase):

    def test_back(self):
        for letter in letters():
            octets = form(letter)
            self.assertEqual(untouched(decode_letter, octets), (returned(letter), True))
            self.assertEqual(untouched(decode_letter, list(octets)), (returned(letter), True))
            self.assertFalse(has_list(decode_letter(list(octets))))

    def test_cut_at_every_place(self):
        for letter in letters():
            octets = form(letter)
            for at in range(len(octets)):
                self.assertEqual(outcome(decode_letter, octets[:at]), raised(BadOctets(at)))
                self.assertEqual(outcome(decode_letter, list(octets[:at])), raised(BadOctets(at)))

    def test_gone_on_with(self):
        for letter in letters():
            octets = form(letter)
            for more in (0, 1, 255, -1, None, "0", (), True):
                self.assertEqual(outcome(decode_letter, octets + (more,)), raised(BadOctets(len(octets))))
                self.assertEqual(outcome(decode_letter, octets + (more, 0)), raised(BadOctets(len(octets))))

    def test_told_faults(self):
        for octets, at in (
            ((3,), 0), ((255, 1, 1), 0), ((0, 0), 1), ((0, 128), 1), ((1, 0, 1), 1), ((1, 255), 1), ((2, 63), 1),
            ((2, 1, 0), 1), ((2, 0), 1), ((2, 128), 1), ((2, 64, 41), 2), ((2, 64, 40), 3), ((0, 1, 0), 2), ((1, 1, 0), 2),
            ((1, 1, 128), 3), ((1, 1, 128, 0), 3), ((1, 1, 200, 128, 0), 4), ((1, 1, 128, 128, 128, 0), 5),
            ((0, 1, 1, 1), 3), ((0, 1, 1, 15), 3), ((0, 1, 1, 255), 3), ((0, 1, 1, 2), 4), ((0, 1, 1, 2, 128, 0), 5),
            ((0, 1, 1, 2, 0, 1), 5), ((0, 1, 1, 2, 0, 64), 5), ((0, 1, 1, 2, 0, 63), 5), ((0, 1, 1, 2, 0, 128), 5),
            ((0, 1, 1, 3, 0, 128, 0, 2), 6), ((0, 1, 1, 3, 0, 0, 66), 6), ((0, 1, 1, 3, 128, 1, 0), 7), ((), 0),
            ((0, 1, 1, 3, 0, 1, 1), 6), ((2, 64, 1, 256), 3), ((2, 64, 1, True), 3), ((2, 64, 1, -1), 3),
        ):
            self.assertEqual(outcome(decode_letter, octets), raised(BadOctets(at)), octets)
            self.assertEqual(outcome(decode_letter, list(octets)), raised(BadOctets(at)), octets)

    def test_one_item_changed(self):
        chance = random.Random(14)
        rows = [letter for letter in letters() if len(form(letter)) < 20]
        for letter in rows:
            octets = form(letter)
            for at in range(len(octets)):
                for item in (0, 1, 2, 63, 64, 127, 128, 255, chance.randrange(256), 256, -1, True, None, "0", (0,), [0]):
                    changed = octets[:at] + (item,) + octets[at + 1:]
                    self.assertEqual(outcome(decode_letter, changed), one_told(changed), changed)

    def test_items_that_are_no_octets(self):
        for letter in letters():
            octets = form(letter)
            for item in (256, -1, True, False, None, "1", (1,), [1], 10 ** 30):
                for at in range(0, len(octets), 1 + len(octets) // 12):
                    changed = octets[:at] + (item,) + octets[at + 1:]
                    self.assertEqual(outcome(decode_letter, changed), raised(BadOctets(at)))
                    self.assertEqual(outcome(decode_stream, changed), raised(BadOctets(at)))

    def test_chance_octets(self):
        chance = random.Random(15)
        for _ in range(3000):
            octets = tuple(chance.choice((0, 1, 2, 5, 62, 64, 127, 128, 200, 255)) for _ in range(chance.randrange(10)))
            octets = chance.choice(((), (0, 5), (0, 1, 1), (0, 1, 1, 3), (2, 100))) + octets
            self.assertEqual(outcome(decode_letter, octets), one_told(octets), octets)

    def test_any_value(self):
        for value in any_values():
            told = raised(BadOctets(-1))
            if type(value) in (list, tuple):
                self.assertEqual(untouched(decode_letter, value), (one_told(tuple(value)), True))
                told = stream_told(tuple(value))
            else:
                self.assertEqual(untouched(decode_letter, value), (told, True))
            self.assertEqual(untouched(decode_stream, value), (told, True))


class Streams(unittest.TestCase):

    def test_whole_streams(self):
        rows = tuple(letters())
        octets = encode_stream(rows)
        self.assertEqual(outcome(decode_stream, octets), returned((rows, ())))
        self.assertEqual(untouched(decode_stream, list(octets)), (returned((rows, ())), True))
        self.assertEqual(outcome(decode_stream, octets=[]), returned(((), ())))

    def test_told_faults(self):
        for octets, at in (((1, 5, 7, 2, 63), 4), ((1, 5, 7, 3), 3), ((1, 5, 0), 2), ((2, 64, 0, 1, 1, 128, 0, 9), 6)):
            self.assertEqual(outcome(decode_stream, octets), raised(BadOctets(at)))
        for octets, told in (
            ((1, 5, 7, 2), ((("ack", "01", 7),), (2,))), ((1, 5, 200), ((), (1, 5, 200))),
            ((0, 1, 1, 2, 9), ((), (0, 1, 1, 2, 9))), ((2, 64, 0, 1), ((("mail", "000000", ()),), (1,))),
        ):
            self.assertEqual(outcome(decode_stream, octets), returned(told))
            self.assertEqual(outcome(decode_stream, list(octets)), returned(told))

    def test_cut_at_every_octet(self):
        chance = random.Random(16)
        rows = tuple(chance_letter(chance) for _ in range(20))
        octets = encode_stream(rows)
        ends = [len(encode_stream(rows[:many])) for many in range(21)]
        for at in range(len(octets) + 1):
            many = len([end for end in ends[1:] if end <= at])
            first, rest = decode_stream(octets[:at])
            self.assertEqual((first, rest), (rows[:many], octets[ends[many]:at]))
            self.assertEqual(decode_stream(rest + octets[at:]), (rows[many:], ()))

    def test_piece_by_piece(self):
        chance = random.Random(17)
        for _ in range(60):
            rows = tuple(chance_letter(chance) for _ in range(chance.randrange(8)))
            octets, rest, read = encode_stream(rows), (), ()
            while octets:
                many = chance.choice((1, 1, 2, 5, 40))
                told, rest = decode_stream(rest + octets[:many])
                octets, read = octets[many:], read + told
            self.assertEqual((read, rest), (rows, ()))

    def test_one_item_changed(self):
        chance = random.Random(18)
        for _ in range(150):
            rows = [chance.choice(letters()) for _ in range(3)]
            octets = sum([form(letter) for letter in rows if len(form(letter)) < 12], ())
            if octets:
                at = chance.randrange(len(octets))
                item = chance.choice((0, 1, 2, 3, 63, 64, 127, 128, 255, True, None))
                changed = octets[:at] + (item,) + octets[at + 1:]
                self.assertEqual(outcome(decode_stream, changed), stream_told(changed), changed)
