"""Fields: nets whose nodes all keep to the policy ([48] to [51])."""

from maypoint.errors import BadDeed
from maypoint.nodes import Node
from maypoint.numbers import is_whole
from maypoint.parts import is_serial, kind_of
from maypoint.worlds import World

SIZES = {"rise": 5, "fall": 3, "turn": 4, "bring": 5}
DEEDS = {"report": "tell", "ack": "ack"}


class Field:
    """A field with a node for each row of homes."""

    def __init__(self, homes):
        self.nodes = [Node(name, own) for name, own in enumerate(homes)]
        # By (i, j), for each link that stands: what i adds for j.
        self.costs = {}
        # By way: the letters under way, the eldest first, each behind the number under which it was sent.
        self.letters = {}
        self.sent = 0
        self.run = []
        self.world = World()

    def do(self, deed):
        """Does this deed."""
        if not self._can(deed):
            raise BadDeed(0)
        kind, i, j = deed[:3]
        if kind == "rise":
            self._rise(i, j, deed[3], deed[4])
        elif kind == "fall":
            self._fall(i, j)
        elif kind == "turn":
            self.costs[(i, j)] = deed[3]
            self._send(i, self.nodes[i].turns(j, deed[3]))
        else:
            self._bring(deed[1:])

    def _has(self, name):
        """Whether this is the name of a node."""
        return is_whole(name) and 0 <= name < len(self.nodes)

    def _can(self, deed):
        """Whether this is a deed that can be done."""
        kind = kind_of(deed)
        if kind not in SIZES or len(deed) != SIZES[kind]:
            return False
        if not self._has(deed[1]) or not self._has(deed[2]) or deed[1] == deed[2]:
            return False
        if kind == "bring":
            return isinstance(deed[3], str) and isinstance(deed[4], str) and deed[1:] in self.letters
        # A cost is of the same kind as a serial: a whole number from 1 on.
        return (kind == "rise") != (deed[1:3] in self.costs) and all([is_serial(cost) for cost in deed[3:]])

    def _bare(self, deed):
        """Does a deed of the bare run."""
        self.world.do(deed)
        self.run.append(deed)

    def _send(self, i, answer):
        """Puts the letters of an answer on their ways."""
        for j, letter in answer:
            self._bare((DEEDS[letter[0]], i, j) + letter[1:])
            self.letters.setdefault((i, j, letter[1], letter[0]), []).append((self.sent, letter))
            self.sent += 1

    def _rise(self, i, j, cost, back):
        """A link rises."""
        self._bare(("rise", i, j))
        self.costs[(i, j)] = cost
        self.costs[(j, i)] = back
        self._send(i, self.nodes[i].rises(j, cost))
        self._send(j, self.nodes[j].rises(i, back))

    def _fall(self, i, j):
        """A link falls with all that is under way on it."""
        self._bare(("fall", i, j))
        ends = ((i, j), (j, i))
        self.costs = {pair: self.costs[pair] for pair in self.costs if pair not in ends}
        self.letters = {way: self.letters[way] for way in self.letters if way[:2] not in ends}
        self._send(i, self.nodes[i].falls(j))
        self._send(j, self.nodes[j].falls(i))

    def _bring(self, way):
        """The eldest letter of a way comes."""
        i, j, stretch, kind = way
        letter = self.letters[way].pop(0)[1]
        if not self.letters[way]:
            del self.letters[way]
        self._bare(("come", i, j, stretch) if kind == "report" else ("back", j, i, stretch))
        self._send(j, self.nodes[j].comes(i, letter))

    def under_way(self):
        """The ways on which something is under way."""
        return tuple(sorted(self.letters))

    def links(self):
        """The links that stand, with the costs both ways."""
        return tuple([(i, j, self.costs[(i, j)], self.costs[(j, i)]) for i, j in sorted(self.costs) if i < j])

    def arrows(self, stretch):
        """The targets of all nodes."""
        return tuple([node.target(stretch) for node in self.nodes])

    def past(self, name):
        """The past of a node in the bare run."""
        return self.world.view(name)

    def deeds(self):
        """The bare run."""
        return tuple(self.run)

    def node(self, name):
        """The node of this name itself."""
        return self.nodes[name]


def tried(field, deed):
    """Does this deed, or passes it over if it cannot be done."""
    try:
        field.do(deed)
    except BadDeed:
        pass


def one_round(field, turn, between):
    """Plays a round; at how many of its places a letter came."""
    start = field.sent
    places = [way for way in field.under_way() for _ in field.letters[way]]
    first = turn % len(places) if places else 0
    came = 0
    for at, way in enumerate(places[first:] + places[:first]):
        # What was sent since the round began is no letter of the round, whatever became of the others.
        if way in field.letters and field.letters[way][0][0] < start:
            field.do(("bring",) + way)
            came += 1
        if at < len(between):
            tried(field, between[at])
    for deed in between[len(places):]:
        tried(field, deed)
    return came
