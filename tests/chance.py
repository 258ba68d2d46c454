"""Events and deeds by chance: most of them such as may come, some of them not."""

from tests.plain import STRETCHES


def number(chance, name):
    if chance.random() < 0.2:
        return None
    middle = tuple(chance.randrange(-1, 2) for _ in range(chance.choice((0, 0, 0, 1))))
    return (chance.randrange(6),) + middle + (name,)


class Serials:
    """Serials and acknowledged numbers that are often, not always, such as may come."""

    def __init__(self, chance):
        self.chance, self.newest, self.acked = chance, {}, {}

    def report(self, *row):
        at = self.newest.get(row, 0)
        serial = at + self.chance.choice((1, 1, 1, 2, 5, 0, -1) if at else (1, 1, 3))
        self.newest[row] = max(at, serial)
        return max(serial, 0)

    def ack(self, *row):
        low, high = self.acked.get(row, 0), self.newest.get(row, 0)
        k = self.chance.choice((low + 1, high, high, high + 1, low, (low + high + 1) // 2))
        self.acked[row] = max(low, k)
        return k


def event(chance, serials, i, names):
    x = chance.choice(names)
    kind = chance.choice(("rise",) * 2 + ("fall",) + ("told", "heard") * 7 + ("acks", "backs") * 5)
    if kind in ("rise", "fall"):
        if chance.random() < 0.3:
            serials.newest, serials.acked = {}, {}
        return (kind, x)
    p = chance.choice(STRETCHES)
    if kind in ("told", "heard"):
        return (kind, x, p, serials.report(x, p, kind), number(chance, i if kind == "told" else x))
    return (kind, x, p, serials.ack(x, p, "heard" if kind == "acks" else "told"))


def past(chance, may_come, many, names=(1, 4, 7), i=2):
    """A past of so many events; `may_come` tells which of those that are drawn are taken."""
    serials, events = Serials(chance), [("rise", x) for x in names]
    while len(events) < many:
        drawn = event(chance, serials, i, names)
        if drawn[0] == "fall" and chance.random() < 0.7:
            continue
        if may_come(i, events, drawn):
            events.append(drawn)
    return (i, tuple(events))


def deed(chance, serials, names, under_way, stretches=STRETCHES):
    one, other = chance.sample(names, 2)
    roll = chance.random()
    if roll < 0.08:
        return ("rise", one, other)
    if roll < 0.1:
        return ("fall", one, other)
    if roll < 0.45 and under_way:
        return chance.choice(under_way)
    p = chance.choice(stretches)
    if roll < 0.5:
        return (chance.choice(("come", "back")), one, other, p)
    if roll < 0.75:
        return ("tell", one, other, p, serials.report(one, other, p), number(chance, one))
    return ("ack", other, one, p, serials.ack(one, other, p))
