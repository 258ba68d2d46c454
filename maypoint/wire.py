"""Letters as octets, one by one and in streams ([13] to [15])."""

from maypoint.errors import BadOctets
from maypoint.numbers import NAMES, is_whole

REPORT = 0
ACK = 1
MAIL = 2

MOST_ENTRIES = 14
MOST_BODY = 40
LEAST_ADDRESS = 64
MOST_STRETCH = 127


class CutOff(Exception):
    """The octets are over ahead of the end of a form."""


class Reader:
    """Reads the forms of letters off octets, one part after another."""

    def __init__(self, octets):
        self.octets = octets
        self.at = 0

    def octet(self, low, high):
        """The next octet, which must lie between the two."""
        if self.at == len(self.octets):
            raise CutOff()
        octet = self.octets[self.at]
        if not is_whole(octet) or not low <= octet <= high:
            raise BadOctets(self.at)
        self.at += 1
        return octet

    def groups(self, least):
        """The next whole number in groups, which must be at least `least`, 0 or 1."""
        total = 0
        unit = 1
        octet = self.octet(least, 255)
        while octet >= 128:
            total += unit * (octet - 128)
            unit *= 128
            # A last group of 0 could be left out, so it stands in no form.
            octet = self.octet(1, 255)
        return total + unit * octet

    def stretch(self, least):
        """The next stretch, its octet at least `least`."""
        digits = f"{self.octet(least, MOST_STRETCH):b}"
        return digits[1:]

    def entry(self):
        """An entry of a number, neither the first nor the last one."""
        code = self.groups(0)
        if code & 1 == 1:
            return -((code + 1) // 2)
        return code // 2

    def teller(self):
        """The last entry of a number: names are few, so it is one octet."""
        octet = self.octet(0, 2 * (NAMES - 1))
        if octet & 1 == 1:
            raise BadOctets(self.at - 1)
        return octet // 2

    def number(self):
        """A number or NONE."""
        many = self.octet(0, MOST_ENTRIES)
        if many == 0:
            return None
        if many == 1:
            raise BadOctets(self.at - 1)
        entries = [self.groups(0)]
        while len(entries) < many - 1:
            entries.append(self.entry())
        entries.append(self.teller())
        return tuple(entries)

    def letter(self):
        """The next letter."""
        kind = self.octet(REPORT, MAIL)
        if kind == MAIL:
            address = self.stretch(LEAST_ADDRESS)
            many = self.octet(0, MOST_BODY)
            return ("mail", address, tuple([self.octet(0, 255) for _ in range(many)]))
        stretch = self.stretch(1)
        serial = self.groups(1)
        if kind == ACK:
            return ("ack", stretch, serial)
        return ("report", stretch, serial, self.number())


def groups_of(whole):
    """A whole number from 0 on in groups."""
    octets = []
    while whole >= 128:
        octets.append(128 + (whole & 127))
        whole = whole // 128
    octets.append(whole)
    return octets


def stretch_octet(stretch):
    """The octet of a stretch: a 1 ahead keeps the zeros that it begins with."""
    return int("1" + stretch, 2)


def number_octets(number):
    """The number of entries and the entries; a lone 0 for NONE."""
    if number is None:
        return [0]
    octets = [len(number)] + groups_of(number[0])
    for entry in number[1:]:
        octets.extend(groups_of(2 * entry if entry >= 0 else -2 * entry - 1))
    return octets


def encode_letter(letter):
    """The form of a letter."""
    kind = letter[0]
    if kind == "mail":
        body = letter[2]
        return (MAIL, stretch_octet(letter[1]), len(body)) + body
    octets = [stretch_octet(letter[1])] + groups_of(letter[2])
    if kind == "ack":
        return (ACK,) + tuple(octets)
    return (REPORT,) + tuple(octets + number_octets(letter[3]))


def encode_stream(letters):
    """The forms of the letters, one after another."""
    octets = []
    for letter in letters:
        octets.extend(encode_letter(letter))
    return tuple(octets)


def octets_of(value):
    """The items of a list or a tuple, as a tuple."""
    if not isinstance(value, (list, tuple)):
        raise BadOctets(-1)
    return tuple(value)


def decode_letter(octets):
    """The letter whose form these octets are."""
    items = octets_of(octets)
    reader = Reader(items)
    try:
        letter = reader.letter()
    except CutOff:
        raise BadOctets(len(items)) from None
    if reader.at < len(items):
        raise BadOctets(reader.at)
    return letter


def decode_stream(octets):
    """The letters that lie whole in this beginning of a stream, and the items behind them."""
    items = octets_of(octets)
    reader = Reader(items)
    letters = []
    end = 0
    try:
        while end < len(items):
            letters.append(reader.letter())
            end = reader.at
    except CutOff:
        # The octets end within a form; what is wrong in it is told as soon as it shows.
        pass
    return tuple(letters), items[end:]
