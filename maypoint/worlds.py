"""Worlds: all that happens between nodes, and what each of them sees ([24] to [27])."""

from maypoint.books import Book
from maypoint.errors import BadDeed, BadPast
from maypoint.numbers import is_name
from maypoint.parts import kind_of, parts_fit

DEED_SIZES = {"rise": 3, "fall": 3, "tell": 6, "come": 4, "ack": 5, "back": 4}


def is_deed(value):
    """Whether this has the form of a deed."""
    kind = kind_of(value)
    if kind not in DEED_SIZES or len(value) != DEED_SIZES[kind]:
        return False
    if not is_name(value[1]) or not is_name(value[2]) or value[1] == value[2]:
        return False
    return parts_fit(value[3:], value[1])


class World:
    """A net of nodes, and what is under way in it."""

    def __init__(self):
        self.books = {}
        # By name: the events, in their order.
        self.seen = {}
        # By the deed `come` or `back` that brings it: what is under way, the eldest first.
        self.sent = {}

    def do(self, deed):
        """Does this deed."""
        if not is_deed(deed):
            raise BadDeed(0)
        if deed[0] in ("come", "back"):
            self._bring(deed)
        elif deed[0] == "tell":
            i, j, p = deed[1:4]
            self._see(i, ("told", j) + deed[3:])
            self._send(("come", i, j, p), deed[4:])
        elif deed[0] == "ack":
            j, i, p = deed[1:4]
            self._see(j, ("acks", i) + deed[3:])
            self._send(("back", i, j, p), deed[4:])
        else:
            self._change_link(deed)

    def _see(self, name, event):
        """A node sees an event, if that may come; what it has seen tells whether the deed can be done."""
        book = self.books[name] if name in self.books else Book(name)
        try:
            book.add_event(event)
        except BadPast:
            raise BadDeed(0) from None
        self.books[name] = book
        self.seen.setdefault(name, []).append(event)

    def _change_link(self, deed):
        """A link rises, or falls with all that is under way on it."""
        kind, i, j = deed
        # Both ends see the same of their link, so the second one refuses only what the first one did.
        self._see(i, (kind, j))
        self._see(j, (kind, i))
        ends = ((i, j), (j, i))
        self.sent = {way: self.sent[way] for way in self.sent if way[1:3] not in ends}

    def _send(self, way, parts):
        """Puts the parts of a report or an acknowledgement on its way."""
        self.sent[way] = self.sent.get(way, ()) + (parts,)

    def _bring(self, way):
        """The eldest of what is under way comes, or comes back."""
        if way not in self.sent:
            raise BadDeed(0)
        kind, i, j, p = way
        parts = self.sent[way]
        if kind == "come":
            self._see(j, ("heard", i, p) + parts[0])
        else:
            self._see(i, ("backs", j, p) + parts[0])
        if len(parts) > 1:
            self.sent[way] = parts[1:]
        else:
            del self.sent[way]

    def names(self):
        """All names that ever had a link."""
        return tuple(sorted(self.seen))

    def links(self):
        """The links that stand, each with its lesser name first."""
        return tuple([(i, j) for i in self.names() for j in self.books[i].near() if i < j])

    def under_way(self):
        """The deeds `come` and `back` that can be done."""
        return tuple(sorted(self.sent))

    def view(self, name):
        """The past of the node of this name."""
        return (name, tuple(self.seen.get(name, ())))

    def book(self, name):
        """A book of its own that has seen what the node of this name has."""
        return self.books[name].copied() if name in self.books else Book(name)


def run_deeds(deeds):
    """The world behind these deeds."""
    if not isinstance(deeds, tuple):
        raise BadDeed(-1)
    world = World()
    for at, deed in enumerate(deeds):
        try:
            world.do(deed)
        except BadDeed:
            raise BadDeed(at) from None
    return world
