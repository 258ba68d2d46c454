"""What events and deeds have in common: serials, and the parts behind the names ([19], [24])."""

from maypoint.numbers import is_whole, number_fault
from maypoint.stretches import stretch_fault


def is_serial(value):
    """Whether this is a serial, or a number of an acknowledgement."""
    return is_whole(value) and value >= 1


def parts_fit(parts, teller):
    """Whether these are (), (p,), (p, k) or (p, k, n), where n is NONE or a number of this teller."""
    if len(parts) > 0 and stretch_fault(parts[0]) is not None:
        return False
    if len(parts) > 1 and not is_serial(parts[1]):
        return False
    if len(parts) > 2 and parts[2] is not None:
        return number_fault(parts[2]) is None and parts[2][-1] == teller
    return True


def kind_of(value):
    """The word that a tuple begins with; the empty word for whatever else."""
    if isinstance(value, tuple) and len(value) > 0 and isinstance(value[0], str):
        return value[0]
    return ""
