"""Sections 15 to 18 read plainly, off the deeds of the bare run; nothing here is fast.

Of the program only what a field tells of itself is asked: its deeds, links, ways and targets.
"""

from tests.plain import below, is_name, key_of, least


class Bare:
    """What stands, was told and was acknowledged behind a bare run ([24])."""

    def __init__(self, deeds):
        self.lives = {}
        for deed in deeds:
            link = frozenset(deed[1:3])
            if deed[0] == "rise":
                self.lives[link] = []
            elif deed[0] == "fall":
                del self.lives[link]
            else:
                self.lives[link].append(deed)

    def near(self, i):
        return sorted(name for link in self.lives if i in link for name in link if name != i)

    def of(self, kind, one, other, p):
        return [deed for deed in self.lives[frozenset((one, other))] if deed[:4] == (kind, one, other, p)]

    def told(self, i, j, p):
        """(serial, number) of i's reports to j."""
        return [deed[4:] for deed in self.of("tell", i, j, p)]

    def came(self, i, j, p):
        return self.told(i, j, p)[:len(self.of("come", i, j, p))]

    def acked(self, j, i, p):
        """The numbers of i's reports that j acknowledged."""
        return [deed[4] for deed in self.of("ack", j, i, p)]

    def backed(self, i, j, p):
        """Those of them that have come back."""
        return self.acked(j, i, p)[:len(self.of("back", i, j, p))]

    def v(self, i, j, p):
        """The least number that i told j and that may still count for i."""
        floor = max(self.backed(i, j, p), default=0)
        return least([number for serial, number in self.told(i, j, p) if serial >= floor])

    def l(self, i, j, p):
        """The least number of j's that may still count for i as hearer."""
        floor = max(self.acked(i, j, p), default=0)
        return least([number for serial, number in self.came(j, i, p) if serial >= floor])

    def stretches(self):
        return sorted({deed[3] for life in self.lives.values() for deed in life})

    def held(self):
        """[52]."""
        rows = []
        for link in self.lives:
            for x, i in (tuple(link), tuple(link)[::-1]):
                for p in {deed[3] for deed in self.lives[link]}:
                    known = max(self.acked(x, i, p), default=0)
                    rows += [(x, i, p)] * any(serial > known for serial, number in self.came(i, x, p))
        return tuple(sorted(rows))

    def key(self, i, j, address, way):
        """[6]: v or l over all stretches that hold the address."""
        read = self.v if way == "v" else self.l
        return least([key_of(p, read(i, j, p)) for p in [address[:many] for many in range(7)]])

    def may(self, i, address, m):
        """[6]."""
        heard = self.key(i, m, address, "l")
        up = [x for x in self.near(i) if below(self.key(i, x, address, "v"), self.key(i, x, address, "l"))]
        return heard is not None and all(below(heard, self.key(i, x, address, "v")) for x in up)


def bare(field):
    return Bare(field.deeds())


def homes_of(field):
    """By node: the stretches of which it is a house, by its number, which is (0, its name) for a house alone."""
    stretches = ["".join(signs) for many in range(7) for signs in every(many)]
    return [[p for p in stretches if node.number(p) is not None and node.number(p)[0] == 0] for node in nodes_of(field)]


def every(many):
    """All rows of so many signs."""
    rows = [()]
    for _ in range(many):
        rows = [row + (sign,) for row in rows for sign in "01"]
    return rows


def nodes_of(field):
    return [field.node(name) for name in range(len(field.arrows("")))]


# [53].


def row_serves(field, held, x, i, p, row):
    """Whether this is a row for this held report, condition by condition; `held` is what [52] tells."""
    if type(row) is not tuple or len(row) != 2 or type(row[0]) is not tuple or type(row[1]) is not tuple:
        return False
    nodes, letter = row
    if len(nodes) < 2 or not all(is_name(name) for name in nodes) or nodes[0] != i or nodes[1] != x:
        return False
    for at in range(1, len(nodes)):
        if (nodes[at], nodes[at - 1], p) not in held:
            return False
        if at < len(nodes) - 1 and field.node(nodes[at]).target(p) != nodes[at - 1]:
            return False
    if len(letter) != 4 or not is_name(letter[0]) or not is_name(letter[1]) or letter not in field.under_way():
        return False
    if letter[2] != p or nodes[-1] != letter[0 if letter[3] == "report" else 1]:
        return False
    other = letter[1 if letter[3] == "report" else 0]
    return field.node(nodes[-1]).target(p) == nodes[-2] or other == nodes[-2]


# [55] to [57].


def is_open(field, read, i, p):
    """Whether a node is open."""
    node = field.node(i)
    if node.number(p) == (0, i) or node.target(p) is not None:
        return False
    return any(read.v(i, x, p) is not None for x in read.near(i))


def chain(field, p, i):
    names = [i]
    while field.node(names[-1]).target(p) is not None:
        names.append(field.node(names[-1]).target(p))
        assert len(names) <= 8
    return tuple(names)


def parts(field):
    """All parts: classes of nodes, joined link by link."""
    mark = {name: name for name in range(len(field.arrows("")))}
    for i, j, _, _ in field.links():
        mark = {name: mark[i] if mark[name] == mark[j] else mark[name] for name in mark}
    classes = [tuple(name for name in mark if mark[name] == one) for one in set(mark.values())]
    return sorted(classes)


def has_house(field, part, p):
    return any(field.node(name).number(p) == (0, name) for name in part)


# [58] to [60].


def far(field, p):
    """Distances, by taking over and over again the nearest node that is left."""
    steps = {}
    for i, j, cost, back in field.links():
        steps[i, j], steps[j, i] = cost, back
    names = range(len(field.arrows("")))
    found, edge = {}, {name: 0 for name in names if field.node(name).number(p) == (0, name)}
    while edge:
        name = min(edge, key=lambda one: (edge[one], one))
        found[name] = edge.pop(name)
        for i, j in steps:
            if j == name and i not in found:
                edge[i] = min(edge.get(i, 10 ** 9), found[name] + steps[i, j])
    return tuple(found.get(name) for name in names)


def bound(field, p):
    """[60], part by part."""
    most = 0
    for part in parts(field):
        n = len(part)
        if n > 1 and not has_house(field, part, p):
            most = max(most, 2 * n + 4)
        if n > 1 and has_house(field, part, p):
            costs = [cost for i, j, one, other in field.links() if i in part for cost in (one, other)]
            most = max(most, max(far(field, p)[name] for name in part) // min(costs) + 5 * n + 4)
    return most


# [63] and [64].


def goes_by(field, homes, i, stretches):
    """The longest of the stretches of which i is a house or for which it has a target."""
    own = [p for p in stretches if p in homes[i] or field.node(i).target(p) is not None]
    return max(own, key=len, default=None)


def travel(field, i, address):
    read, homes, nodes = bare(field), homes_of(field), [i]
    while True:
        p = goes_by(field, homes, nodes[-1], [address[:many] for many in range(7)])
        if p is not None and p in homes[nodes[-1]]:
            return (tuple(nodes), "home")
        to = None if p is None else field.node(nodes[-1]).target(p)
        if to is None or not read.may(nodes[-1], address, to):
            return (tuple(nodes), "dropped")
        assert to not in nodes
        nodes.append(to)


def table_rows(field, i):
    """[64]: the rows of a node's table, of each of the 127 stretches."""
    read, homes, rows = bare(field), homes_of(field), []
    for p in ["".join(signs) for many in range(7) for signs in every(many)]:
        if p in homes[i]:
            rows.append((p, i))
        elif field.node(i).target(p) is not None:
            rows.append((p, field.node(i).target(p)))
        elif is_open(field, read, i, p):
            shorter = goes_by(field, homes, i, [p[:many] for many in range(len(p))])
            if shorter is None or shorter not in homes[i]:
                rows.append((p, None))
    return tuple(sorted(rows, key=lambda row: row[0]))
