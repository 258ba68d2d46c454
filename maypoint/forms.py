"""The form of rules ([38])."""

from maypoint.errors import BadRule
from maypoint.parts import kind_of

TERMS = ("vm", "lm", "hm", "vx", "lx", "hx")
OUTER_TERMS = ("vm", "lm", "hm")
SIZES = {"less": 3, "is": 2, "not": 2, "and": 3, "or": 3, "all": 2, "some": 2}

MOST_PARTS = 60
MOST_BODIES = 4


def part_fits(part, within):
    """Whether the part itself is as told, whatever stands below it; within a body or outside."""
    word = kind_of(part)
    if word not in SIZES or len(part) != SIZES[word]:
        return False
    if word in ("less", "is"):
        return all([term in (TERMS if within else OUTER_TERMS) for term in part[1:]])
    return not within or word in ("not", "and", "or")


def parts_below(part, within):
    """The parts of a part that is no comparison, each with whether it stands within a body."""
    if part[0] in ("less", "is"):
        return []
    return [(below, within or part[0] in ("all", "some")) for below in part[1:]]


def check_rule(value):
    """The value itself, if it is a rule."""
    # The parts that were not looked at yet, the next one last.
    left = [(value, False)]
    number = 0
    bodies = 0
    while left:
        part, within = left.pop()
        if kind_of(part) in ("all", "some"):
            bodies += 1
        if number == MOST_PARTS or not part_fits(part, within) or bodies > MOST_BODIES:
            raise BadRule(number)
        left.extend(list(reversed(parts_below(part, within))))
        number += 1
    return value
