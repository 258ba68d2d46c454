"""Events and deeds by chance: most of them such as may come, some of them not."""

from tests.plain import STRETCHES


def number(chance, name):
    if chance.random() < 0.2:
        return None
    middle = tuple(chance.randrange(-1, 2) for _ in range(chance.choice((0, 0, 0, 1))))
    return (chance.randrange(6),) + middle + (name,)


class Serials:
    """Serials and acknowledged numbers that are often, not always, such as may come."""

    def __init__(self, chance):
        self.chance, self.newest, self.acked = chance, {}, {}

    def report(self, *row):
        at = self.newest.get(row, 0)
        serial = at + self.chance.choice((1, 1, 1, 2, 5, 0, -1) if at else (1, 1, 3))
        self.newest[row] = max(at, serial)
        return max(serial, 0)

    def ack(self, *row):
        low, high = self.acked.get(row, 0), self.newest.get(row, 0)
        k = self.chance.choice((low + 1, high, high, high + 1, low, (low + high + 1) // 2))
        self.acked[row] = max(low, k)
        return k


def event(chance, serials, i, names):
    x = chance.choice(names)
    kind = chance.choice(("rise",) * 2 + ("fall",) + ("told", "heard") * 7 + ("acks", "backs") * 5)
    if kind in ("rise", "fall"):
        if chance.random() < 0.3:
            serials.newest, serials.acked = {}, {}
        return (kind, x)
    p = chance.choice(STRETCHES)
    if kind in ("told", "heard"):
        return (kind, x, p, serials.report(x, p, kind), number(chance, i if kind == "told" else x))
    return (kind, x, p, serials.ack(x, p, "heard" if kind == "acks" else "told"))


def past(chance, may_come, many, names=(1, 4, 7), i=2):
    """A past of so many events; `may_come` tells which of those that are drawn are taken."""
    serials, events = Serials(chance), [("rise", x) for x in names]
    while len(events) < many:
        drawn = event(chance, serials, i, names)
        if drawn[0] == "fall" and chance.random() < 0.7:
            continue
        if may_come(i, events, drawn):
            events.append(drawn)
    return (i, tuple(events))


def deed(chance, serials, names, under_way, stretches=STRETCHES):
    one, other = chance.sample(names, 2)
    roll = chance.random()
    if roll < 0.08:
        return ("rise", one, other)
    if roll < 0.1:
        return ("fall", one, other)
    if roll < 0.45 and under_way:
        return chance.choice(under_way)
    p = chance.choice(stretches)
    if roll < 0.5:
        return (chance.choice(("come", "back")), one, other, p)
    if roll < 0.75:
        return ("tell", one, other, p, serials.report(one, other, p), number(chance, one))
    return ("ack", other, one, p, serials.ack(one, other, p))


def rich_number(chance, name, great):
    """A number of 2 to 10 entries, small ones that often agree or ones of any size."""
    if chance.random() < 0.15:
        return None
    if great:
        middle = [chance.choice((-10 ** 12, 10 ** 12, chance.randrange(-10 ** 12, 10 ** 12))) for _ in range(chance.randrange(9))]
        return (chance.randrange(10 ** 12 + 1),) + tuple(middle) + (name,)
    return (chance.randrange(7),) + (0,) * chance.choice((0, 0, 0, 1, 8)) + (name,)


def rich_stretches(chance, address):
    """One to seven stretches that hold the address, and perhaps some others."""
    held = chance.sample([address[:many] for many in range(7)], chance.choice((1, 1, 2, 4, 7)))
    return held + chance.sample(("0", "1", "00", "11", "101", "010101"), chance.choice((0, 0, 2)))


def rich_past(chance, many):
    """A past of so many events with one to seven neighbours of any names, and an address that it tells of."""
    i, *others = chance.sample(range(32), chance.randrange(2, 9))
    address = "".join(chance.choice("01") for _ in range(6))
    stretches, great = rich_stretches(chance, address), chance.random() < 0.3
    weights = [chance.choice((1, 4, 9)) for _ in range(4)]
    rows, standing, events = {}, [], []
    while len(events) < many:
        x = chance.choice(others)
        if x not in standing or chance.random() < 0.03:
            events.append(("fall" if x in standing else "rise", x))
            standing = [y for y in standing if y != x] + [x] * (x not in standing)
            rows = {row: rows[row] for row in rows if row[0] != x}
            continue
        kind, p = chance.choices(("told", "heard", "acks", "backs"), weights)[0], chance.choice(stretches)
        row = rows.setdefault((x, p, kind in ("told", "backs")), [0, 0])
        if kind in ("told", "heard"):
            row[1] += chance.choice((1, 1, 1, 2, 9, 10 ** 9))
            events.append((kind, x, p, row[1], rich_number(chance, i if kind == "told" else x, great)))
        elif row[0] < row[1]:
            row[0] = chance.choice((row[1], chance.randrange(row[0], row[1]) + 1))
            events.append((kind, x, p, row[0]))
    return (i, tuple(events)), address


def split(chance, many):
    """So many parts, in two rows of at least one."""
    one = chance.randrange(1, many)
    return one, many - one


def rule(chance, many, bodies=4):
    """A rule of exactly so many parts, of which up to so many have a body."""
    left = [bodies]

    def part(many, within):
        terms = ("vm", "lm", "hm") + ("vx", "lx", "hx") * within
        if many == 1:
            return chance.choice((("less", chance.choice(terms), chance.choice(terms)), ("is", chance.choice(terms))))
        words = ["not"] + ["and", "or"] * 2 * (many > 2) + ["all", "some"] * 2 * (not within and left[0] > 0)
        word = chance.choice(words)
        if word in ("and", "or"):
            one, other = split(chance, many - 1)
            return (word, part(one, within), part(other, within))
        left[0] -= word in ("all", "some")
        return (word, part(many - 1, within or word in ("all", "some")))

    return part(many, False)
