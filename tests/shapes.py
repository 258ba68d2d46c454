"""Fields of several shapes, and what may go on in them."""

import random

from maypoint.fields import Field
from tests.support import outcome

SHAPES = ("row", "ring", "all", "star", "some")


def pairs_of(chance, shape, n):
    """The pairs of nodes between which links rise at first."""
    every = [(i, j) for i in range(n) for j in range(i + 1, n)]
    if shape == "row":
        return [(i, i + 1) for i in range(n - 1)]
    if shape == "ring":
        return [(i, i + 1) for i in range(n - 1)] + [(0, n - 1)] * (n > 2)
    if shape == "star":
        return [(0, j) for j in range(1, n)]
    return every if shape == "all" else [pair for pair in every if chance.random() < 0.5]


def homes_by_chance(chance, n, stretches=("", "0", "01")):
    """Houses of none, one and several stretches, and several of one."""
    homes = [[] for _ in range(n)]
    for p in stretches:
        for row in chance.sample(homes, min(n, chance.choice((0, 1, 1, 1, 2)))):
            row.append(p)
    return tuple(tuple(row) for row in homes)


def field_by_chance(chance, n, shape, homes, cost=9):
    field = Field(homes)
    for i, j in pairs_of(chance, shape, n):
        field.do(("rise",) + chance.choice(((i, j), (j, i))) + (chance.randint(1, cost), chance.randint(1, cost)))
    return field


def way_by_chance(chance, field, slow):
    """One of the ways; of such as are slow (a kind of letter, or the letters to one node) only now and then."""
    ways = field.under_way()
    fast = [way for way in ways if slow not in (way[3], way[1])]
    return chance.choice(fast if fast and chance.random() < 0.95 else ways)


def deed_by_chance(chance, field, n, falls=0.02, turns=0.25, slow=None):
    """A deed that may be done, for the most part: letters come in any order."""
    under_way, links, roll = field.under_way(), field.links(), chance.random()
    i, j = chance.sample(range(n), 2) if n > 1 else (0, 0)
    if roll < falls and links:
        return ("fall",) + chance.choice(links)[:2]
    if roll < 2 * falls:
        return ("rise", i, j, chance.randint(1, 9), chance.randint(1, 9))
    if roll < 2 * falls + turns and links:
        one, other, cost, back = chance.choice(links)
        # Costs climb again and again, and fall at times.
        return chance.choice((("turn", one, other, cost + chance.choice((1, 5, 30))), ("turn", other, one, back + chance.choice((1, 5, 30))),
                              ("turn", one, other, 1), ("turn", other, one, chance.randint(1, 1000))))
    return ("bring",) + way_by_chance(chance, field, slow) if under_way else ("turn", i, j, chance.randint(1, 9))


def instants(seed, many, length, sizes=(2, 3, 4, 5, 6, 8), shapes=SHAPES, falls=0.02, turns=0.25):
    """(chance, n, field) at many instants of many fields, also of new ones; in most of them some letters are slow."""
    chance = random.Random(seed)
    for _ in range(many):
        n = chance.choice(sizes)
        field = field_by_chance(chance, n, chance.choice(shapes), homes_by_chance(chance, n))
        slow = chance.choice((None, "report", "ack", "ack", "ack", chance.randrange(n)))
        for _ in range(length):
            yield chance, n, field
            for _ in range(chance.choice((1, 1, 3, 8))):
                outcome(field.do, deed_by_chance(chance, field, n, falls, turns, slow))


def stretches_told(field):
    """The stretches that anything was told of, and one of which nothing was."""
    return sorted({deed[3] for deed in field.deeds() if len(deed) > 3} | {"1101"})
