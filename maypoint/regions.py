"""The parts of a field: nodes between which rows of links lead ([55], [60])."""


def region_of(field, name):
    """All nodes to which a row of links leads from this one, itself too, ascending."""
    pairs = [link[:2] for link in field.links()]
    found = [name]
    left = [name]
    while left:
        one = left.pop()
        ends = [other for pair in pairs if one in pair for other in pair]
        more = sorted({other for other in ends if other not in found})
        found.extend(more)
        left.extend(more)
    return tuple(sorted(found))


def regions(field):
    """The parts, each once, in the order of their least names."""
    rows = [region_of(field, name) for name in range(len(field.nodes))]
    return [region for name, region in enumerate(rows) if region[0] == name]


def has_house(field, region, stretch):
    """Whether a house of the stretch is among these nodes."""
    return any([field.node(name).is_house(stretch) for name in region])
