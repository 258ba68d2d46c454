"""Journals: rows, their lines, and what a stop may leave of them ([65], [66])."""

from maypoint.errors import BadText, Refused
from maypoint.numbers import is_name, number_fault
from maypoint.parts import is_serial, kind_of
from maypoint.stretches import stretch_fault
from maypoint.words import NoWord, number_of, number_word, whole_of

MOST_FIGURES = 20


def is_short(whole):
    """Whether a whole number has no more figures than a row may have."""
    return abs(whole) < 10 ** 20


def is_row(value):
    """Whether this is a row of a journal."""
    kind = kind_of(value)
    if kind == "limit":
        return len(value) == 2 and is_serial(value[1]) and is_short(value[1])
    if kind not in ("floor", "ceiling") or len(value) != 5:
        return False
    x, life, stretch, number = value[1:]
    if not is_name(x) or not is_serial(life) or stretch_fault(stretch) is not None:
        return False
    if number is not None and number_fault(number) is not None:
        return False
    return all([is_short(whole) for whole in (life,) + (number or ())])


def check_of(text):
    """The check of the words of a line."""
    check = 0
    for sign in text:
        check = (31 * check + ord(sign)) % 9973
    return f"{check:04d}"


def row_line(row):
    """The line of a row."""
    if not is_row(row):
        raise Refused(row)
    words = [str(word) for word in row[:3]]
    if row[0] != "limit":
        words.extend([row[3] or "-", number_word(row[4])])
    text = " ".join(words)
    return f"{text} {check_of(text)}\n"


def row_said(words):
    """What these words say, whether or not it is a row; those that say none are told by NoWord."""
    if words[0] == "limit" and len(words) == 3:
        return ("limit", whole_of(words[1], MOST_FIGURES))
    if len(words) != 6:
        raise NoWord()
    x, life = [whole_of(word, MOST_FIGURES) for word in words[1:3]]
    return (words[0], x, life, "" if words[3] == "-" else words[3], number_of(words[4], MOST_FIGURES))


def row_of_line(line):
    """The row of this line, from which its line feed is taken."""
    row = row_said(line.split(" "))
    # Whatever else these words could be read as, the line is just the one that the row has.
    if not is_row(row) or row_line(row) != line + "\n":
        raise NoWord()
    return row


def read_journal(text):
    """The rows of the whole lines of a text."""
    if not isinstance(text, str):
        raise BadText(-1)
    rows = []
    for at, line in enumerate(text.split("\n")[:-1]):
        try:
            rows.append(row_of_line(line))
        except NoWord:
            raise BadText(at) from None
    return tuple(rows)


class Journal:
    """The rows that a node has written, and how many of them are sure."""

    def __init__(self):
        self.rows = ()
        self.flushed = 0

    def write(self, row):
        """Puts a row at the end."""
        if not is_row(row):
            raise Refused(row)
        self.rows = self.rows + (row,)

    def flush(self):
        """Makes sure of all rows that were written so far."""
        self.flushed = len(self.rows)

    def cuts(self):
        """How many rows a stop may leave now."""
        return tuple(range(self.flushed, len(self.rows) + 1))

    def rows_left(self, many):
        """The first so many rows, as a stop may leave them."""
        if many not in self.cuts():
            raise Refused(many)
        return self.rows[:many]

    def whole_text(self):
        """The lines of all rows."""
        return "".join([row_line(row) for row in self.rows])


def opened_journal(rows):
    """A journal in which these rows stand, all of them flushed."""
    journal = Journal()
    journal.rows = rows
    journal.flush()
    return journal
