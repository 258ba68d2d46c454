"""The promises of sections 13 and 14 read plainly: nodes and fields by whole lists of reports and letters.

Nothing here asks the program, so that one may be held against the other.
"""

from tests.plain import PlainRow, below, is_name, is_stretch, is_whole


class PlainNode:
    """[43] to [46], by the words."""

    def __init__(self, name, homes):
        self.name, self.homes = name, homes
        self.costs, self.targets, self.rows, self.events = {}, {}, {}, []

    def near(self):
        return sorted(self.costs)

    def row(self, p, x, way):
        return self.rows.setdefault((x, p, way), PlainRow())

    def v(self, p, x):
        return self.row(p, x, "out").least()

    def l(self, p, x):
        return self.row(p, x, "in").least()

    def h(self, p, x):
        return self.row(p, x, "in").newest()

    def up(self, p, x):
        return below(self.v(p, x), self.l(p, x))

    def waiting(self, p, x):
        """The serials of x's reports that wait."""
        row = self.row(p, x, "in")
        return [serial for serial, number in row.reports if serial > row.first]

    def sum(self, p, x):
        return self.h(p, x)[0] + self.costs[x]

    def can_be_taken(self, p, m):
        return self.h(p, m) is not None and all(
            below(self.h(p, m), self.v(p, x)) for x in self.near() if below(self.v(p, x), self.h(p, x)))

    def number(self, p):
        if p in self.homes:
            return (0, self.name)
        t = self.targets.get(p)
        return None if t is None or self.h(p, t) is None else (self.sum(p, t), self.name)

    # Events that may come: each returns the letters.

    def rises(self, x, cost):
        self.costs[x] = cost
        self.rows = {place: self.rows[place] for place in self.rows if place[0] != x}
        self.events.append(("rise", x))
        return self.settle(dict(self.targets))

    def falls(self, x):
        del self.costs[x]
        self.rows = {place: self.rows[place] for place in self.rows if place[0] != x}
        self.events.append(("fall", x))
        before = dict(self.targets)
        self.targets = {p: t for p, t in before.items() if t != x}
        return self.settle(before)

    def turns(self, x, cost):
        self.costs[x] = cost
        return self.settle(dict(self.targets))

    def comes(self, x, letter):
        if letter[0] == "report":
            self.row(letter[1], x, "in").told(letter[2], letter[3])
            self.events.append(("heard", x) + letter[1:])
        else:
            self.row(letter[1], x, "out").acked(letter[2])
            self.events.append(("backs", x) + letter[1:])
        return self.settle(dict(self.targets))

    def stretches(self):
        return sorted(set(self.homes) | {place[1] for place in self.rows}, key=lambda p: (len(p), p))

    def settle(self, before):
        letters = []
        for p in self.stretches():
            if p not in self.homes:
                self.choose(p)
            letters += self.tell(p) + self.acknowledge(p, before.get(p))
        return tuple(letters)

    def choose(self, p):
        """[44]."""
        free = [x for x in self.near() if self.can_be_taken(p, x)]
        t = self.targets.get(p)
        if free:
            m = sorted(free, key=lambda x: (self.sum(p, x), x))[0]
            if t is None or self.h(p, t) is None or self.sum(p, t) > self.sum(p, m):
                self.targets[p] = m
        elif t is not None and self.h(p, t) is None and all(self.v(p, x) is None for x in self.near()):
            del self.targets[p]

    def tell(self, p):
        """[45]."""
        letters = []
        for x in self.near():
            row = self.row(p, x, "out")
            if row.newest() != self.number(p):
                letter = ("report", p, row.last + 1, self.number(p))
                row.told(*letter[2:])
                self.events.append(("told", x) + letter[1:])
                letters.append((x, letter))
        return letters

    def greatest(self, p, x, bars):
        """The greatest serial heard from which on the least is a number below all of these; 0 if there is none."""
        row = self.row(p, x, "in")
        serials = [serial for serial, number in row.reports
                   if row.since(serial) is not None and all(below(row.since(serial), bar) for bar in bars)]
        return max(serials, default=0)

    def acknowledge(self, p, before):
        """[46]."""
        t = self.targets.get(p)
        kept = t is not None and t == before
        others = [x for x in self.near() if x != t]
        due = {x: self.row(p, x, "in").last for x in self.near()}
        if kept:
            for x in others:
                if not self.up(p, x) and not below(self.l(p, t), self.v(p, x)):
                    due[x] = self.greatest(p, x, [self.v(p, x)])
        sent = {x: self.ack(p, x, due[x]) for x in others}
        if kept:
            bars = [self.v(p, x) for x in others if self.up(p, x) or self.waiting(p, x)]
            due[t] = self.greatest(p, t, [self.v(p, t)] + bars)
        letters = [] if t is None else self.ack(p, t, due[t])
        letters += [letter for x in others for letter in sent[x]]
        self.events += [("acks", x) + letter[1:] for x, letter in letters]
        return letters

    def ack(self, p, x, k):
        row = self.row(p, x, "in")
        return [(x, ("ack", p, k))] if k > row.first and row.acked(k) else []

    def refuses(self, x, letter):
        """Whether a letter of a neighbour's cannot come ([43])."""
        if letter[0] == "mail":
            return True
        if letter[0] == "report":
            return letter[2] <= self.row(letter[1], x, "in").last or letter[3] is not None and letter[3][-1] != x
        row = self.row(letter[1], x, "out")
        return letter[2] <= row.first or letter[2] > row.last

    # [47], by the words.

    def faults(self, p):
        """What does not hold of [47] for this stretch."""
        t, found = self.targets.get(p), []
        let = [x for x in self.near() if self.l(p, x) is not None
               and all(below(self.l(p, x), self.v(p, y)) for y in self.near() if self.up(p, y))]
        if t is not None and t not in let:
            found.append("the target is not let")
        if (t is None) != (p in self.homes or not let):
            found.append("a target exactly if somebody is let")
        for x in self.near():
            for serial in self.waiting(p, x):
                if t is None or not (self.held_for_target(p, serial) if x == t else self.held_from(p, x, serial)):
                    found.append("waits without need")
        return found

    def held_from(self, p, x, serial):
        """Whether x, acknowledged so far, would come to be up with v below l of the target."""
        later = self.row(p, x, "in").since(serial)
        return not self.up(p, x) and below(self.v(p, x), later) and below(self.v(p, x), self.l(p, self.targets[p]))

    def held_for_target(self, p, serial):
        t = self.targets[p]
        later = self.row(p, t, "in").since(serial)
        bars = [self.v(p, x) for x in self.near() if x == t or self.up(p, x) or self.waiting(p, x) and x != t]
        return later is None or any(not below(later, bar) for bar in bars)


def is_cost(value):
    return is_whole(value) and value > 0


class PlainField:
    """[48] to [50], by the words: each letter is an object of its own."""

    def __init__(self, homes):
        self.nodes = [PlainNode(name, own) for name, own in enumerate(homes)]
        self.ways, self.run = {}, []

    def stands(self, i, j):
        return j in self.nodes[i].costs

    def can(self, deed):
        sizes = {"rise": 5, "fall": 3, "turn": 4, "bring": 5}
        if type(deed) is not tuple or not deed or type(deed[0]) is not str or len(deed) != sizes.get(deed[0]):
            return False
        kind, i, j = deed[:3]
        if not is_name(i) or not is_name(j) or i == j or max(i, j) >= len(self.nodes):
            return False
        if kind == "bring":
            return is_stretch(deed[3]) and deed[4] in ("report", "ack") and bool(self.ways.get(deed[1:]))
        return self.stands(i, j) != (kind == "rise") and all(is_cost(cost) for cost in deed[3:])

    def send(self, i, letters):
        for j, letter in letters:
            self.ways.setdefault((i, j, letter[1], letter[0]), []).append([letter])
            self.run.append(({"report": "tell", "ack": "ack"}[letter[0]], i, j) + letter[1:])

    def do(self, deed):
        kind, i, j = deed[:3]
        if kind == "rise":
            self.run.append(("rise", i, j))
            self.send(i, self.nodes[i].rises(j, deed[3]))
            self.send(j, self.nodes[j].rises(i, deed[4]))
        elif kind == "fall":
            self.run.append(("fall", i, j))
            self.ways = {way: self.ways[way] for way in self.ways if set(way[:2]) != {i, j}}
            self.send(i, self.nodes[i].falls(j))
            self.send(j, self.nodes[j].falls(i))
        elif kind == "turn":
            self.send(i, self.nodes[i].turns(j, deed[3]))
        else:
            letter = self.ways[deed[1:]].pop(0)[0]
            self.run.append(("come", i, j, deed[3]) if deed[4] == "report" else ("back", j, i, deed[3]))
            self.send(j, self.nodes[j].comes(i, letter))

    def under_way(self):
        return tuple(sorted(way for way in self.ways if self.ways[way]))

    def links(self):
        pairs = [(i, j) for i in range(len(self.nodes)) for j in range(len(self.nodes)) if i < j and self.stands(i, j)]
        return tuple((i, j, self.nodes[i].costs[j], self.nodes[j].costs[i]) for i, j in pairs)

    def arrows(self, p):
        return tuple(node.targets.get(p) for node in self.nodes)

    def one_round(self, turn, between):
        places = [way for way in self.under_way() for letter in self.ways[way]]
        old = [letter for way in self.under_way() for letter in self.ways[way]]
        left, came = list(between), 0
        start = turn % len(places) if places else 0
        for way in places[start:] + places[:start]:
            if self.ways.get(way) and any(letter is self.ways[way][0] for letter in old):
                self.do(("bring",) + way)
                came += 1
            self.try_next(left)
        while left:
            self.try_next(left)
        return came, old

    def try_next(self, left):
        if left:
            deed = left.pop(0)
            if self.can(deed):
                self.do(deed)

