"""Lines of the desk: their words, taken one by one from left to right ([72])."""

from maypoint.errors import BadText
from maypoint.numbers import is_name
from maypoint.stretches import is_address, stretch_fault
from maypoint.words import NoWord, number_of, number_word, whole_of


class Line:
    """The words of a line, and how many of them were taken."""

    def __init__(self, text):
        self.words = text.split(" ")
        self.taken = 0

    def take(self):
        """Takes the next word."""
        if self.taken == len(self.words):
            raise BadText(self.taken)
        self.taken += 1
        return self.words[self.taken - 1]

    def check(self, fits):
        """The word that was taken last is at fault if it does not fit."""
        if not fits:
            raise BadText(self.taken - 1)

    def end(self):
        """No word may be left."""
        if self.taken < len(self.words):
            raise BadText(self.taken)

    def take_one(self, words):
        """Takes one of these words."""
        word = self.take()
        self.check(word in words)
        return word

    def _whole(self, word):
        """The whole number that the word that was taken last, or a part of it, says."""
        try:
            return whole_of(word, len(word))
        except NoWord:
            raise BadText(self.taken - 1) from None

    def take_whole(self, least):
        """Takes a whole number from `least` on."""
        whole = self._whole(self.take())
        self.check(whole >= least)
        return whole

    def take_name(self):
        """Takes a name."""
        name = self.take_whole(0)
        self.check(is_name(name))
        return name

    def take_near(self, book):
        """Takes the name of a neighbour."""
        name = self.take_name()
        self.check(name in book.near())
        return name

    def take_address(self):
        """Takes an address."""
        word = self.take()
        self.check(is_address(word))
        return word

    def take_stretch(self):
        """Takes a stretch, which has a star behind its signs."""
        word = self.take()
        self.check(word.endswith("*") and stretch_fault(word[:-1]) is None)
        return word[:-1]

    def take_number(self, teller):
        """Takes a number of this teller, or NONE."""
        word = self.take()
        try:
            number = number_of(word, len(word))
        except NoWord:
            raise BadText(self.taken - 1) from None
        self.check(number is None or number[-1] == teller)
        return number

    def take_ring(self):
        """Takes one or more names with dots between them."""
        names = tuple([self._whole(name) for name in self.take().split(".")])
        self.check(all([is_name(name) for name in names]))
        return names


def said(parts, names):
    """The words of an event or a deed in which so many names stand."""
    behind = parts[1 + names:]
    words = [str(word) for word in parts[:1 + names]]
    words.extend([stretch + "*" for stretch in behind[:1]])
    words.extend([str(serial) for serial in behind[1:2]])
    words.extend([number_word(number) for number in behind[2:]])
    return " ".join(words)
