"""Numbers as words: how journals and lines of the desk write them ([65], [72])."""

from maypoint.numbers import number_fault

FIGURES = "0123456789"


class NoWord(Exception):
    """A word that is not written as it is told."""


def whole_of(word, most):
    """The whole number that a word of at most so many figures says."""
    figures = word[1:] if word.startswith("-") else word
    # Python reads more than these as numbers: figures of other scripts, strokes between them, blanks around them.
    if figures == "" or len(figures) > most or not all([sign in FIGURES for sign in figures]):
        raise NoWord()
    if figures[0] == "0" and word != "0":
        raise NoWord()
    return int(word)


def number_of(word, most):
    """The number, or NONE, that a word says, its entries of at most so many figures."""
    if word == "none":
        return None
    number = tuple([whole_of(entry, most) for entry in word.split(".")])
    if number_fault(number) is not None:
        raise NoWord()
    return number


def number_word(number):
    """The word that says a number, or NONE."""
    return "none" if number is None else ".".join([str(entry) for entry in number])
