"""The desk: a past and a run, changed and asked by lines ([72] to [75])."""

from maypoint.books import SIZES, WAYS, book_of
from maypoint.errors import BadText
from maypoint.judges import net_serves
from maypoint.lines import Line, said
from maypoint.nets import question
from maypoint.words import number_word
from maypoint.worlds import DEED_SIZES

MOST_SIGNS = 200

EVENTS = ("rise", "fall", "told", "heard", "acks", "backs")
CHANGES = ("node", "deed", "clear", "net", "undo")
QUESTIONS = ("near", "up", "let", "v", "l", "room", "may", "why", "event", "show", "judge")


def taken_event(kind, line, book):
    """The event of this kind that the words of a line say, which may come behind what the book has seen."""
    if kind == "rise":
        x = line.take_name()
        line.check(book.takes(("rise", x)))
        return ("rise", x)
    x = line.take_near(book)
    if kind == "fall":
        return ("fall", x)
    stretch, serial = line.take_stretch(), line.take_whole(1)
    row = book.row(x, stretch, WAYS[kind])
    if SIZES[kind] == 4:
        line.check(row.may_ack(serial))
        return (kind, x, stretch, serial)
    line.check(row.may_tell(serial))
    return (kind, x, stretch, serial, line.take_number(book.name if kind == "told" else x))


def taken_deed(line):
    """The deed that the words of a line say, whether or not it can be done."""
    kind = line.take_one(list(DEED_SIZES))
    i, j = line.take_name(), line.take_name()
    line.check(i != j)
    deed = (kind, i, j)
    if DEED_SIZES[kind] > 3:
        deed = deed + (line.take_stretch(),)
    if DEED_SIZES[kind] > 4:
        deed = deed + (line.take_whole(1),)
    if DEED_SIZES[kind] > 5:
        deed = deed + (line.take_number(i),)
    return deed


def names_said(names):
    """The names of some nodes, or that there are none."""
    return " ".join([str(name) for name in names]) if names else "nobody"


def told_of(book, kind, address, x):
    """What a book answers of a neighbour."""
    if kind == "v":
        return number_word(book.v(address, x))
    if kind == "l":
        return number_word(book.l(address, x))
    if kind == "room":
        return number_word(book.room(address, x))
    if kind == "may":
        return "yes" if book.may(address, x) else "no"
    why = book.why(address, x)
    return "let" if why is None else " ".join([str(word) for word in why])


class Desk:
    """A past and a run, and what stood ahead of each change that was not taken back."""

    def __init__(self):
        # The past and the run.
        self.stands = ((0, ()), ())
        self.stood = []

    def say(self, line):
        """The answer to a line."""
        if not isinstance(line, str) or len(line) > MOST_SIGNS:
            raise BadText(-1)
        words = Line(line)
        kind = words.take_one(EVENTS + CHANGES + QUESTIONS)
        if kind in QUESTIONS:
            return self._answer(kind, words)
        if kind == "undo":
            return self._undo(words)
        if kind == "net":
            return self._net(words)
        past, run = self._changed(kind, words)
        words.end()
        self._change(past, run)
        return self._count()

    def _changed(self, kind, words):
        """The past and the run behind a change of this kind."""
        past, run = self.stands
        if kind == "node":
            return (words.take_name(), ()), ()
        if kind == "deed":
            return past, run + (taken_deed(words),)
        if kind == "clear":
            return past, ()
        return (past[0], past[1] + (taken_event(kind, words, book_of(past)),)), run

    def _change(self, past, run):
        """Lets this past and this run stand from now on."""
        self.stood.append(self.stands)
        self.stands = (past, run)

    def _undo(self, words):
        """Takes back the last change."""
        words.check(len(self.stood) > 0)
        words.end()
        self.stands = self.stood.pop()
        return self._count()

    def _count(self):
        """How many events and deeds stand."""
        past, run = self.stands
        return f"{len(past[1])} events, {len(run)} deeds"

    def _net(self, words):
        """Takes the run of a told net, where there is one."""
        past = self.stands[0]
        address = words.take_address()
        m = words.take_near(book_of(past))
        words.end()
        answer = question(past, address, m)
        if answer[0] != "net":
            return answer[0]
        self._change(past, answer[1])
        ring = ".".join([str(name) for name in answer[2]])
        return f"ring {ring}"

    def _answer(self, kind, words):
        """The answer to a question."""
        if kind in ("event", "show"):
            return self._shown(kind, words)
        past, run = self.stands
        book = book_of(past)
        if kind == "near":
            words.end()
            return names_said(book.near())
        address = words.take_address()
        if kind in ("up", "let"):
            words.end()
            return names_said(book.up(address) if kind == "up" else book.let(address))
        x = words.take_near(book)
        if kind == "judge":
            ring = words.take_ring()
            words.end()
            return "serves" if net_serves(past, address, x, run, ring) else "fails"
        words.end()
        return told_of(book, kind, address, x)

    def _shown(self, kind, words):
        """The line that says an event of the past, or a deed of the run."""
        past, run = self.stands
        rows = past[1] if kind == "event" else run
        at = words.take_whole(0)
        words.check(at < len(rows))
        words.end()
        return said(rows[at], 1) if kind == "event" else "deed " + said(rows[at], 2)
