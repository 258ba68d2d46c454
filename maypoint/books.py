"""What one node has seen, and to whom it may hand a letter by that ([19] to [23])."""

from maypoint.errors import BadPast, Refused
from maypoint.numbers import is_below, is_name, least_of
from maypoint.parts import kind_of, parts_fit
from maypoint.rows import begun_row
from maypoint.stretches import key_of, stretches_of

SIZES = {"rise": 2, "fall": 2, "told": 5, "heard": 5, "acks": 4, "backs": 4}
WAYS = {"told": "out", "heard": "in", "acks": "in", "backs": "out"}


def is_event(name, value):
    """Whether this has the form of an event of the node of this name."""
    kind = kind_of(value)
    if kind not in SIZES or len(value) != SIZES[kind]:
        return False
    if not is_name(value[1]) or value[1] == name:
        return False
    return parts_fit(value[2:], name if kind == "told" else value[1])


def copied_rows(rows):
    """Rows of their own that answer alike."""
    return {place: rows[place].copied() for place in rows}


class Book:
    """What a node of this name has seen."""

    def __init__(self, name):
        self.name = name
        # By near name, then by (stretch, way): the rows of this life of the link.
        self.rows = {}
        # By name: how often the link has risen so far.
        self.lives = {}
        # By near name, of links that have stood since the node started: the limit with which their rows begin ([67]).
        self.limits = {}

    def takes(self, event):
        """Whether this is an event that may come."""
        if not is_event(self.name, event):
            return False
        kind, x = event[0], event[1]
        if kind == "rise" or x not in self.rows:
            return kind == "rise" and x not in self.rows
        if kind == "fall":
            return True
        row = self.row(x, event[2], WAYS[kind])
        return row.may_tell(event[3]) if len(event) == 5 else row.may_ack(event[3])

    def add_event(self, event):
        """The node sees this event."""
        if not self.takes(event):
            raise BadPast(0)
        kind, x = event[0], event[1]
        if kind == "rise":
            self.rows[x] = {}
            self.lives[x] = self.lives.get(x, 0) + 1
        elif kind == "fall":
            del self.rows[x]
            self.limits.pop(x, None)
        else:
            self._put(x, event)

    def _put(self, x, event):
        """Puts a report or an acknowledgement on its row."""
        place = (event[2], WAYS[event[0]])
        row = self.row(x, place[0], place[1])
        if len(event) == 5:
            row.told(event[3], event[4])
        else:
            row.acked(event[3])
        self.rows[x][place] = row

    def near(self):
        """The names to which the link stands."""
        return tuple(sorted(self.rows))

    def copied(self):
        """Another book that has seen the same."""
        other = Book(self.name)
        other.rows = {x: copied_rows(self.rows[x]) for x in self.rows}
        other.lives = dict(self.lives)
        other.limits = dict(self.limits)
        return other

    def row_states(self, x):
        """The states of all rows that there are with x."""
        rows = self._rows(x)
        return tuple([(place[0], place[1], rows[place].state()) for place in sorted(rows)])

    def row(self, x, stretch, way):
        """The row of one way for one stretch alone, which is only to be asked."""
        rows, place = self._rows(x), (stretch, way)
        if place in rows:
            return rows[place]
        return begun_row(self.limits.get(x, 0) if way == "out" else 0, None)

    def _rows(self, x):
        """The rows of the link to x, which must be near."""
        if x not in self.rows:
            raise Refused(x)
        return self.rows[x]

    def _key(self, address, x, way):
        """The least key of one way that may still count."""
        rows = self._rows(x)
        # Keys of longer stretches go first, so the first one found is the least.
        for stretch in stretches_of(address):
            place = (stretch, way)
            least = rows[place].least() if place in rows else None
            if least is not None:
                return key_of(stretch, least)
        return None

    def v(self, address, x):
        """The least key that the node told x and that may still count."""
        return self._key(address, x, "out")

    def l(self, address, x):
        """The least key that came from x and that may still count."""
        return self._key(address, x, "in")

    def up(self, address):
        """The near names that may still hand to the node."""
        return tuple([x for x in self.near() if is_below(self.v(address, x), self.l(address, x))])

    def _bar(self, address):
        """The least key by which anyone goes who may still hand to the node."""
        return least_of([self.v(address, x) for x in self.up(address)])

    def may(self, address, m):
        """Whether the node may hand a letter to m."""
        return is_below(self.l(address, m), self._bar(address))

    def let(self, address):
        """The near names to which the node may hand a letter."""
        bar = self._bar(address)
        return tuple([m for m in self.near() if is_below(self.l(address, m), bar)])

    def why(self, address, m):
        """Why the node may not hand a letter to m; None if it may."""
        if self.may(address, m):
            return None
        up = self.up(address)
        if m in up:
            return ("up", m)
        heard = self.l(address, m)
        for x in up:
            if is_below(self.v(address, x), heard):
                return ("up", x)
        return ("none",)

    def room(self, address, m):
        """What a key of m's must be below to be handed to."""
        # Where m itself is up, its own v stands in the bar as well, which changes nothing.
        return least_of((self.v(address, m), self._bar(address)))


def names_node(value):
    """Whether this is a tuple of two, a name and a tuple."""
    return isinstance(value, tuple) and len(value) == 2 and is_name(value[0]) and isinstance(value[1], tuple)


def book_of(past):
    """The book of the node of this past."""
    if not names_node(past):
        raise BadPast(-1)
    book = Book(past[0])
    for at, event in enumerate(past[1]):
        try:
            book.add_event(event)
        except BadPast:
            raise BadPast(at) from None
    return book


def check_past(past):
    """The value itself, if it is a past."""
    book_of(past)
    return past
