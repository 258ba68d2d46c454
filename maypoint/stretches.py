"""Stretches of addresses, keys, and what a cover leaves out ([11], [12])."""

from maypoint.errors import BadStretch

SIGNS = 6


def stretch_fault(value):
    """Where this fails to be a stretch, as `BadStretch` tells it; None for a stretch."""
    if not isinstance(value, str) or len(value) > SIGNS:
        return -1
    for at, sign in enumerate(value):
        if sign not in ("0", "1"):
            return at
    return None


def check_stretch(value):
    """The value itself, if it is a stretch."""
    at = stretch_fault(value)
    if at is not None:
        raise BadStretch(at)
    return value


def is_address(value):
    """Whether this is an address."""
    return stretch_fault(value) is None and len(value) == SIGNS


def check_address(value):
    """The value itself, if it is an address."""
    if isinstance(value, str) and len(value) != SIGNS:
        raise BadStretch(-1)
    return check_stretch(value)


def stretch_holds(stretch, address):
    """Whether the address begins with the stretch."""
    return address.startswith(stretch)


def stretches_of(address):
    """The stretches that hold the address, the longest first."""
    return tuple([address[:SIGNS - short] for short in range(SIGNS + 1)])


def key_of(stretch, number):
    """The key of a number for a stretch: longer stretches go first."""
    if number is None:
        return None
    return (SIGNS - len(stretch),) + number


def left_out(stretch, others):
    """The least address of the stretch that none of the others holds; None if there is none."""
    if any([stretch.startswith(other) for other in others]):
        return None
    within = [other for other in others if other.startswith(stretch)]
    if not within:
        return stretch.ljust(SIGNS, "0")
    # Whatever lies within is longer, so a stretch that comes here has two halves.
    found = left_out(stretch + "0", within)
    if found is None:
        found = left_out(stretch + "1", within)
    return found


def all_stretches():
    """All stretches, the longest first."""
    level = [""]
    rows = [""]
    for _ in range(SIGNS):
        level = [stretch + sign for stretch in level for sign in ("0", "1")]
        rows = level + rows
    return rows
