"""Numbers, their order, and a number between any two ([8] to [10])."""

from maypoint.errors import BadNumber, Refused

NAMES = 32


def is_whole(value):
    """Whether this is a whole number; a bool is none."""
    return isinstance(value, int) and not isinstance(value, bool)


def is_name(value):
    """Whether this is the name of a node."""
    return is_whole(value) and 0 <= value < NAMES


def number_fault(value):
    """Where this fails to be a number, as `BadNumber` tells it; None for a number."""
    if not isinstance(value, tuple) or len(value) < 2:
        return -1
    for at, entry in enumerate(value):
        if not is_whole(entry):
            return at
    if value[0] < 0:
        return 0
    if not is_name(value[-1]):
        return len(value) - 1
    return None


def check_number(value):
    """The value itself, if it is a number."""
    at = number_fault(value)
    if at is not None:
        raise BadNumber(at)
    return value


def is_below(one, two):
    """Whether the first number or key is below the second; NONE is above all."""
    return one is not None and (two is None or one < two)


def least_of(row):
    """The least number or key of a row; None if there is none in it."""
    least = None
    for entry in row:
        if is_below(entry, least):
            least = entry
    return least


def number_between(low, high, name):
    """A number of this teller above `low` and below `high`."""
    if not is_below(low, high):
        raise Refused(low)
    if high is None:
        return (low[0] + 1, name)
    if high[:len(low)] == low:
        # Only what goes on below the next entry of `high` stays below it.
        return low + (high[len(low)] - 1, name)
    return low + (0, name)
