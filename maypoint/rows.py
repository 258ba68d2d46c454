"""Rows of reports of one end for one stretch ([16] to [18])."""

from maypoint.errors import BadRow, Refused
from maypoint.numbers import is_below, is_whole, number_fault


class Row:
    """The reports that still matter on one life of a link."""

    def __init__(self):
        self.first = 0
        self.last = 0
        # The falls of [17]: no other report can ever be told by an answer.
        self.steps = ()

    def may_tell(self, serial):
        """Whether a report of this serial may be told."""
        return serial > self.last

    def may_ack(self, k):
        """Whether this number may be acknowledged."""
        return self.first < k <= self.last

    def told(self, serial, number):
        """Takes a report."""
        if not self.may_tell(serial):
            raise Refused(serial)
        kept = [step for step in self.steps if is_below(step[1], number)]
        self.last = serial
        self.steps = tuple(kept) + ((serial, number),)

    def acked(self, k):
        """Takes an acknowledgement."""
        if not self.may_ack(k):
            raise Refused(k)
        self.first = k
        self.steps = tuple([step for step in self.steps if step[0] >= k])

    def least(self):
        """The least number that may still count."""
        return self.steps[0][1] if self.steps else None

    def since(self, k):
        """The least number of the reports from the serial k on."""
        if k < 1 or k < self.first or k > self.last:
            raise Refused(k)
        later = [step[1] for step in self.steps if step[0] >= k]
        return later[0]

    def newest(self):
        """The number of the newest report."""
        return self.steps[-1][1] if self.steps else None

    def state(self):
        """All that this row's answers hang on."""
        return (self.first, self.last, self.steps)

    def copied(self):
        """A row of its own that answers alike."""
        return row_with(self.first, self.last, self.steps)


def row_with(first, last, steps):
    """The row with these parts of a state."""
    row = Row()
    row.first = first
    row.last = last
    row.steps = steps
    return row


def begun_row(serial, number):
    """A row in which one report stands."""
    if serial == 0 and number is None:
        return Row()
    return row_with(serial, serial, ((serial, number),))


def is_fall(value):
    """Whether this is a pair of a serial, perhaps 0, and a number or NONE."""
    if not isinstance(value, tuple) or len(value) != 2:
        return False
    if not is_whole(value[0]) or value[0] < 0:
        return False
    return value[1] is None or number_fault(value[1]) is None


def fall_fits(state, place):
    """Whether the fall at this place may stand there, those ahead of it being right."""
    first, last, falls = state
    if not is_fall(falls[place]):
        return False
    serial, number = falls[place]
    if place == 0:
        if serial < first or serial == 0 and number is None:
            return False
    elif serial <= falls[place - 1][0] or not is_below(falls[place - 1][1], number):
        return False
    return place < len(falls) - 1 or serial == last


def state_fault(state):
    """Where this fails to be a state, as `BadRow` tells it; None for a state."""
    if not isinstance(state, tuple) or len(state) != 3 or not isinstance(state[2], tuple):
        return -1
    first, last, falls = state
    if not is_whole(first) or first < 0:
        return 0
    if not is_whole(last) or last < first or last > 0 and not falls:
        return 1
    for place in range(len(falls)):
        if not fall_fits(state, place):
            return 2 + place
    return None


def row_of(state):
    """The row that has this state."""
    at = state_fault(state)
    if at is not None:
        raise BadRow(at)
    return row_with(state[0], state[1], state[2])
