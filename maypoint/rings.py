"""All that is let at one instant, rings in it, and the ways of a letter ([28] to [30])."""

from maypoint.errors import Refused


def handings(world, address):
    """The pairs (i, m) of which i may hand a letter for the address to m."""
    pairs = []
    for i in world.names():
        pairs.extend([(i, m) for m in world.book(i).let(address)])
    return tuple(pairs)


def leaders(pairs, left, name):
    """Those that are left and lead to this name."""
    return [one for one, other in pairs if other == name and one in left]


def ordered(pairs):
    """The names in the order of [29], and those that cannot be put in it."""
    left = sorted({name for pair in pairs for name in pair})
    order = []
    free = [name for name in left if not leaders(pairs, left, name)]
    while free:
        order.append(free[0])
        left = [name for name in left if name != free[0]]
        free = [name for name in left if not leaders(pairs, left, name)]
    return order, left


def ring_in(pairs):
    """Some ring in the pairs; None if there is none."""
    left = ordered(pairs)[1]
    if not left:
        return None
    # To each that is left one leads that is left, so going back from any of them closes a ring.
    back = [left[0]]
    leader = leaders(pairs, left, left[0])[0]
    while leader not in back:
        back.append(leader)
        leader = leaders(pairs, left, leader)[0]
    ring = back[back.index(leader):]
    return tuple(reversed(ring))


def hand_order(pairs):
    """All names in the pairs, whatever leads to a name ahead of it."""
    order, left = ordered(pairs)
    if left:
        raise Refused(pairs)
    return tuple(order)


def hand_ways(world, address, name):
    """How many ways of a letter for the address begin at this node."""
    pairs = handings(world, address)
    ways = {}
    for i in reversed(hand_order(pairs)):
        led = [ways[other] for one, other in pairs if one == i]
        ways[i] = sum(led) if led else 1
    return ways.get(name, 1)
