"""Nodes that are cut off: open nodes, and where arrows end ([55] to [57])."""

from maypoint.regions import has_house, regions


def opened_nodes(field, stretch):
    """The names of the open nodes."""
    return tuple([node.name for node in field.nodes if node.is_open(stretch)])


def arrow_chain(field, stretch, i):
    """The node, its target, the target of that one, and so on."""
    names = (i,)
    target = field.node(i).target(stretch)
    while target is not None:
        names = names + (target,)
        target = field.node(target).target(stretch)
    return names


def houseless_parts(field, stretch):
    """The parts without a house of the stretch."""
    return tuple([region for region in regions(field) if not has_house(field, region, stretch)])


def dark_bound(n):
    """Behind how many rounds nobody is open, in a field of so many nodes of which no link falls any more."""
    return 2 * n + 2
