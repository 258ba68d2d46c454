"""The whole: what is so of every handing, and within how many rounds all settles ([70], [71])."""

from maypoint.dark import dark_bound
from maypoint.nets import question


def all_answers(world, address):
    """What is so of the handing from each node to each of its neighbours."""
    pairs = [(i, m) for i in world.names() for m in world.book(i).near()]
    return tuple([(i, m, question(world.view(i), address, m)) for i, m in pairs])


def told_bounds(n, distance, cost):
    """Within how many rounds all is acknowledged, nobody is open, and all is at rest."""
    return (2 * n, dark_bound(n), distance // cost + 5 * n + 4)
