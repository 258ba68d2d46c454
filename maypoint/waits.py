"""Who waits for whom: reports that are held, and the letters that they wait for ([52] to [54])."""

from maypoint.errors import Refused
from maypoint.numbers import is_name


def held_reports(field):
    """Each (x, i, stretch) such that x holds a report of i's for the stretch."""
    return tuple([(node.name, i, stretch) for node in field.nodes for i, stretch in node.held()])


def is_awaited(field, nodes, way):
    """Whether the last of the nodes waits for what is under way on this way of its stretch."""
    ahead, last = nodes[-2:]
    i, j, stretch, kind = way
    near, far = (i, j) if kind == "report" else (j, i)
    return near == last and (far == ahead or field.node(last).target(stretch) == ahead)


def awaited(field, nodes, stretch):
    """The ways of the stretch on which something is under way that the last of the nodes waits for."""
    return [way for way in field.under_way() if way[2] == stretch and is_awaited(field, nodes, way)]


def wait_row(field, x, i, stretch):
    """Some row of who waits for this held report."""
    held = held_reports(field)
    if (x, i, stretch) not in held:
        raise Refused((x, i, stretch))
    nodes = (i, x)
    letters = awaited(field, nodes, stretch)
    while not letters:
        # Where no letter is awaited, somebody holds a report of the last node; by [53] anyone who does leads on.
        nodes = nodes + tuple([name for name, ahead, p in held if ahead == nodes[-1] and p == stretch][:1])
        letters = awaited(field, nodes, stretch)
    return (nodes, letters[0])


def is_chain(field, x, i, stretch, nodes):
    """Whether these are the nodes of a row for this held report, whatever its letter."""
    if not isinstance(nodes, tuple) or not all([is_name(name) for name in nodes]) or nodes[:2] != (i, x):
        return False
    held = held_reports(field)
    steps = tuple(zip(nodes, nodes[1:]))
    if not all([(name, ahead, stretch) in held for ahead, name in steps]):
        return False
    return all([field.node(name).target(stretch) == ahead for ahead, name in steps[:-1]])


def is_way(value):
    """Whether this has the form of a way."""
    if not isinstance(value, tuple) or len(value) != 4:
        return False
    return is_name(value[0]) and is_name(value[1])


def wait_row_serves(field, x, i, stretch, row):
    """Whether this is a row of who waits for this held report."""
    if not isinstance(row, tuple) or len(row) != 2 or not is_chain(field, x, i, stretch, row[0]):
        return False
    return is_way(row[1]) and row[1] in awaited(field, row[0], stretch)
