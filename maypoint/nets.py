"""Told nets: for each handing that is not let, a net in which it closes a ring ([31], [32], [34])."""

from maypoint.books import book_of
from maypoint.numbers import number_between
from maypoint.stretches import SIGNS


class Player:
    """Plays what one node sees as deeds of a net; what the node tells stays under way as long as it can."""

    def __init__(self, name):
        self.name = name
        self.run = []
        # By (neighbour, stretch), of the lives that stand: serials under way, and the last one that came.
        self.waiting = {}
        self.came = {}

    def see(self, event):
        """Plays one event that may come."""
        kind, x = event[0], event[1]
        if kind == "heard":
            self.run.extend([("tell", x, self.name) + event[2:], ("come", x, self.name, event[2])])
        elif kind == "acks":
            self.run.extend([("ack", self.name, x) + event[2:], ("back", x, self.name, event[2])])
        elif kind == "told":
            self.run.append(("tell", self.name, x) + event[2:])
            self.waiting.setdefault((x, event[2]), []).append(event[3])
        elif kind == "backs":
            self.hear(x, event[2], event[3])
            self.run.extend([("ack", x, self.name) + event[2:], ("back", self.name, x, event[2])])
        else:
            self.run.append((kind, self.name, x))
            self.waiting = {row: self.waiting[row] for row in self.waiting if row[0] != x}
            self.came = {row: self.came[row] for row in self.came if row[0] != x}

    def hear(self, x, stretch, k):
        """Lets x hear the node's reports up to the first one whose serial is not below k."""
        row = (x, stretch)
        while self.came.get(row, 0) < k:
            self.came[row] = self.waiting[row].pop(0)
            self.run.append(("come", self.name, x, stretch))


def player_of(past):
    """The player that has played this past."""
    player = Player(past[0])
    for event in past[1]:
        player.see(event)
    return player


def told_net(past, address, m, x):
    """A told net, x being up at the address with a key below m's, or m itself."""
    book, player = book_of(past), player_of(past)
    stretch = address[:SIGNS - book.v(address, x)[0]]
    serial, number = book.row(x, stretch, "out").state()[2][0]
    # Nothing less counts for x, and nothing at all for a longer stretch: so x goes by this number.
    player.hear(x, stretch, serial)
    if x == m:
        return tuple(player.run), (book.name, m)
    between = number_between(number, book.row(m, stretch, "in").least(), x)
    player.run.extend([("rise", m, x), ("tell", x, m, stretch, 1, between), ("come", x, m, stretch)])
    return tuple(player.run), (book.name, m, x)


def question(past, address, m):
    """What is so of the handing from the node of the past to m."""
    why = book_of(past).why(address, m)
    if why is None:
        return ("let",)
    if why == ("none",):
        return ("idle",)
    return ("net",) + told_net(past, address, m, why[1])
