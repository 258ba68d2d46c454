"""Distances, and when a field is at rest ([58] to [60])."""

from maypoint.numbers import is_whole
from maypoint.regions import has_house, regions


def steps_of(field):
    """Each step over a link with what it costs: (i, j, what i adds for j)."""
    steps = []
    for i, j, cost, back in field.links():
        steps.extend([(i, j, cost), (j, i, back)])
    return steps


def distances(field, stretch):
    """The least cost of a way from each node to a house of the stretch; None where there is no way."""
    rows = [0 if node.is_house(stretch) else None for node in field.nodes]
    steps = steps_of(field)
    # A cheapest way has no node twice, so it has fewer steps than there are nodes.
    for _ in field.nodes:
        for i, j, cost in steps:
            if rows[j] is not None and (rows[i] is None or rows[i] > rows[j] + cost):
                rows[i] = rows[j] + cost
    return tuple(rows)


def is_price(value):
    """Whether this is None or a whole number from 0 on."""
    return value is None or is_whole(value) and value >= 0


def price_holds(field, stretch, rows, i):
    """Whether the price of this node agrees with those of its neighbours."""
    if field.node(i).is_house(stretch):
        return rows[i] == 0
    made = [rows[j] + cost for one, j, cost in steps_of(field) if one == i and rows[j] is not None]
    if rows[i] is None or not made:
        return rows[i] is None and not made
    return rows[i] == min(made)


def prices_hold(field, stretch, rows):
    """Whether these are prices of the nodes."""
    if not isinstance(rows, tuple) or len(rows) != len(field.nodes) or not all([is_price(price) for price in rows]):
        return False
    return all([price_holds(field, stretch, rows, i) for i in range(len(rows))])


def part_bound(field, stretch, region, far):
    """Within how many rounds this part is at rest, `far` being the distances."""
    n = len(region)
    if n == 1:
        return 0
    if not has_house(field, region, stretch):
        return 2 * n + 4
    least = min([cost for i, _, cost in steps_of(field) if i in region])
    return max([far[i] for i in region]) // least + 5 * n + 4


def rest_bound(field, stretch):
    """Within how many rounds all parts are at rest for the stretch."""
    far = distances(field, stretch)
    return max([0] + [part_bound(field, stretch, region, far) for region in regions(field)])


def at_rest(field):
    """Whether nothing is under way."""
    return not field.under_way()
