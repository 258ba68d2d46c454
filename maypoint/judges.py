"""Whether a run and a ring are a told net ([31], [33])."""

from maypoint.errors import BadDeed
from maypoint.numbers import is_name
from maypoint.worlds import run_deeds

MOST_RING = 8


def world_seen(past, run):
    """The world behind the run, if the node of the past sees just this past in it; None otherwise."""
    try:
        world = run_deeds(run)
    except BadDeed:
        return None
    return world if world.view(past[0]) == past else None


def is_ring(i, m, ring):
    """Whether this is a tuple of two to eight unlike names that begins with i and m."""
    if not isinstance(ring, tuple) or not 2 <= len(ring) <= MOST_RING:
        return False
    if not all([is_name(name) for name in ring]):
        return False
    return len(set(ring)) == len(ring) and ring[:2] == (i, m)


def steps_of(ring):
    """The steps of a ring, that of its first node first."""
    return tuple(zip(ring, ring[1:] + ring[:1]))


def net_serves(past, address, m, run, ring):
    """Whether (run, ring) is a told net of this past, address and neighbour."""
    if not is_ring(past[0], m, ring):
        return False
    world = world_seen(past, run)
    if world is None:
        return False
    return all([other in world.book(one).let(address) for one, other in steps_of(ring)[1:]])
