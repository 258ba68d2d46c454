"""The promises of sections 6 to 9 read plainly, off whole lists of what was told; nothing here is fast.

Nothing here asks the program, so that one may be held against the other.
"""

STRETCHES = ("", "0", "01", "010", "1", "011010", "010111")
ADDRESSES = ("010111", "011010", "000000", "110000")


def below(one, two):
    return one is not None and (two is None or one < two)


def key_of(p, number):
    return None if number is None else (6 - len(p),) + number


def least(row):
    numbers = [entry for entry in row if entry is not None]
    return min(numbers) if numbers else None


def is_whole(value):
    return type(value) is int


def is_name(value):
    return type(value) is int and 0 <= value <= 31


def is_number(value):
    return (type(value) is tuple and len(value) > 1 and all(type(entry) is int for entry in value)
            and value[0] >= 0 and is_name(value[-1]))


def is_stretch(value):
    return type(value) is str and len(value) <= 6 and all(sign in "01" for sign in value)


def is_serial(value):
    return type(value) is int and value > 0


class PlainRow:
    """[16] to [18] by a list of all reports."""

    def __init__(self, reports=(), first=0, last=0):
        self.reports, self.first, self.last = list(reports), first, last

    def told(self, serial, number):
        if serial <= self.last:
            return False
        self.last = serial
        self.reports.append((serial, number))
        return True

    def acked(self, k):
        if k <= self.first or k > self.last:
            return False
        self.first = k
        return True

    def counting(self, k):
        return [report for report in self.reports if report[0] >= k]

    def least(self):
        return least([number for serial, number in self.counting(self.first)])

    def may_ask_since(self, k):
        return k >= 1 and k >= self.first and k <= self.last

    def since(self, k):
        return least([number for serial, number in self.counting(k)])

    def newest(self):
        return self.reports[-1][1] if self.reports else None

    def state(self):
        rest = self.counting(self.first)
        falls = [report for at, report in enumerate(rest)
                 if all(below(report[1], later[1]) for later in rest[at + 1:])]
        return (self.first, self.last, tuple(falls))


# Pasts: `events` is always the list of all that the node i has seen.


def life(events, x):
    """The events with x since their link rose; None if it does not stand."""
    own = [event for event in events if event[1] == x]
    ends = [at for at, event in enumerate(own) if event[0] in ("rise", "fall")]
    if not ends or own[ends[-1]][0] == "fall":
        return None
    return own[ends[-1] + 1:]


def near(events):
    return tuple(x for x in range(32) if life(events, x) is not None)


def of_kind(events, x, kind, p):
    return [event for event in life(events, x) if event[0] == kind and event[2] == p]


def is_event(i, event):
    sizes = {"rise": 2, "fall": 2, "told": 5, "heard": 5, "acks": 4, "backs": 4}
    if type(event) is not tuple or not event or type(event[0]) is not str or len(event) != sizes.get(event[0]):
        return False
    if not is_name(event[1]) or event[1] == i:
        return False
    if len(event) == 2:
        return True
    if not is_stretch(event[2]) or not is_serial(event[3]):
        return False
    if len(event) == 4 or event[4] is None:
        return True
    return is_number(event[4]) and event[4][-1] == (i if event[0] == "told" else event[1])


def may_come(i, events, event):
    """[19], condition by condition."""
    if not is_event(i, event):
        return False
    kind, x = event[0], event[1]
    if kind == "rise":
        return life(events, x) is None
    if life(events, x) is None:
        return False
    if kind == "fall":
        return True
    ahead = [other[3] for other in of_kind(events, x, kind, event[2])]
    if ahead and event[3] <= ahead[-1]:
        return False
    if kind in ("told", "heard"):
        return True
    reports = of_kind(events, x, {"acks": "heard", "backs": "told"}[kind], event[2])
    return bool(reports) and event[3] <= reports[-1][3]


def first_fault(past):
    """What [19] says of `BadPast`; None for a past."""
    if type(past) is not tuple or len(past) != 2 or not is_name(past[0]) or type(past[1]) is not tuple:
        return -1
    for at, event in enumerate(past[1]):
        if not may_come(past[0], list(past[1][:at]), event):
            return at
    return None


def least_key(events, address, x, told, acked):
    """The least key of the reports that may still count by [5]."""
    keys = []
    for p in [address[:many] for many in range(7)]:
        known = [event[3] for event in of_kind(events, x, acked, p)]
        limit = known[-1] if known else 0
        keys += [key_of(p, event[4]) for event in of_kind(events, x, told, p) if event[3] >= limit]
    return least(keys)


def v(events, address, x):
    return least_key(events, address, x, "told", "backs")


def l(events, address, x):
    return least_key(events, address, x, "heard", "acks")


def up(events, address):
    return tuple(x for x in near(events) if below(v(events, address, x), l(events, address, x)))


def may(events, address, m):
    heard = l(events, address, m)
    return heard is not None and all(below(heard, v(events, address, x)) for x in up(events, address))


def why(events, address, m):
    if may(events, address, m):
        return None
    if m in up(events, address):
        return ("up", m)
    for x in up(events, address):
        if below(v(events, address, x), l(events, address, m)):
            return ("up", x)
    return ("none",)


def room(events, address, m):
    others = [x for x in up(events, address) if x != m]
    return least([v(events, address, x) for x in [m] + others])


def row_states(events, x):
    rows = []
    for p in sorted({event[2] for event in life(events, x)}):
        for way, told, acked in (("in", "heard", "acks"), ("out", "told", "backs")):
            if of_kind(events, x, told, p):
                row = PlainRow()
                for event in life(events, x):
                    if event[0] == told and event[2] == p:
                        row.told(event[3], event[4])
                    if event[0] == acked and event[2] == p:
                        row.acked(event[3])
                rows.append((p, way, row.state()))
    return tuple(rows)


class PlainWorld:
    """[24] to [26] by the list of all deeds that were done."""

    def __init__(self):
        self.deeds = []

    def life(self, i, j):
        """The deeds on this link since it rose; None if it does not stand."""
        own = [deed for deed in self.deeds if {deed[1], deed[2]} == {i, j}]
        ends = [at for at, deed in enumerate(own) if deed[0] in ("rise", "fall")]
        if not ends or own[ends[-1]][0] == "fall":
            return None
        return own[ends[-1] + 1:]

    def of_kind(self, kind, one, other, p):
        return [deed for deed in self.life(one, other) if deed[:4] == (kind, one, other, p)]

    def waiting(self, i, j, p):
        """The reports of i's for p that are under way to j, and the acknowledgements of j's to i."""
        came, backed = len(self.of_kind("come", i, j, p)), len(self.of_kind("back", i, j, p))
        return self.of_kind("tell", i, j, p)[came:], self.of_kind("ack", j, i, p)[backed:]

    def can(self, deed):
        sizes = {"rise": 3, "fall": 3, "tell": 6, "come": 4, "ack": 5, "back": 4}
        if type(deed) is not tuple or not deed or type(deed[0]) is not str or len(deed) != sizes.get(deed[0]):
            return False
        kind, one, other = deed[:3]
        if not is_name(one) or not is_name(other) or one == other:
            return False
        if kind == "rise" or self.life(one, other) is None:
            return kind == "rise" and self.life(one, other) is None
        if kind == "fall":
            return True
        p = deed[3]
        if not is_stretch(p):
            return False
        if kind in ("come", "back"):
            return bool(self.waiting(one, other, p)[kind == "back"])
        if not is_serial(deed[4]) or any(ahead[4] >= deed[4] for ahead in self.of_kind(kind, one, other, p)):
            return False
        if kind == "tell":
            return deed[5] is None or is_number(deed[5]) and deed[5][-1] == one
        told, came = self.of_kind("tell", other, one, p), len(self.of_kind("come", other, one, p))
        return came > 0 and deed[4] <= told[came - 1][4]

    def do(self, deed):
        self.deeds.append(deed)

    def names(self):
        return tuple(sorted({name for deed in self.deeds for name in deed[1:3]}))

    def links(self):
        names = self.names()
        return tuple((i, j) for i in names for j in names if i < j and self.life(i, j) is not None)

    def under_way(self):
        rows = []
        for i in self.names():
            for j in self.names():
                if i != j and self.life(i, j) is not None:
                    for p in {deed[3] for deed in self.life(i, j)}:
                        for kind, waiting in zip(("come", "back"), self.waiting(i, j, p)):
                            rows += [(kind, i, j, p)] if waiting else []
        return tuple(sorted(rows))

    def view(self, name):
        """What this node sees, each deed asked in the world as it was ahead of it."""
        events, world = [], PlainWorld()
        for deed in self.deeds:
            kind, one, other = deed[:3]
            if kind in ("rise", "fall") and name in (one, other):
                events.append((kind, other if name == one else one))
            if kind == "tell" and name == one:
                events.append(("told", other) + deed[3:])
            if kind == "ack" and name == one:
                events.append(("acks", other) + deed[3:])
            if kind == "come" and name == other:
                events.append(("heard", one) + world.waiting(one, other, deed[3])[0][0][3:])
            if kind == "back" and name == one:
                events.append(("backs", other) + world.waiting(one, other, deed[3])[1][0][3:])
            world.do(deed)
        return (name, tuple(events))


def may_hand(world, i, address):
    """Those to whom i may hand by its view in a world."""
    events = list(world.view(i)[1])
    return [m for m in near(events) if may(events, address, m)]
