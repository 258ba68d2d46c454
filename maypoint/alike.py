"""Pasts behind which the same is let for ever, and what parts those that are not so ([35] to [37])."""

from maypoint.books import book_of
from maypoint.errors import BadPast, Refused
from maypoint.numbers import is_below, is_name, number_between
from maypoint.parts import kind_of
from maypoint.stretches import SIGNS, is_address, stretches_of

REPORTS = {"out": "told", "in": "heard"}
ACKS = {"out": "backs", "in": "acks"}
BACK = {"out": "in", "in": "out"}


def books_of(one, two):
    """The books of two pasts, which must be of one node."""
    if one[0] != two[0]:
        raise Refused(two)
    return book_of(one), book_of(two)


def states_of(book):
    """All that hangs on the past of a book."""
    return tuple([(x, book.row_states(x)) for x in book.near()])


def are_alike(one, two):
    """Whether two pasts are alike."""
    books = books_of(one, two)
    return states_of(books[0]) == states_of(books[1])


def report_on(place, serial, number):
    """The event of a report on the row at this place, (neighbour, stretch, way)."""
    return (REPORTS[place[2]], place[0], place[1], serial, number)


def ack_on(place, k):
    """The event of an acknowledgement on the row at this place."""
    return (ACKS[place[2]], place[0], place[1], k)


def row_at(book, place):
    """The row of a book at this place."""
    return book.row(place[0], place[1], place[2])


def places_of(book):
    """The places of all rows on which something was told."""
    return [(x, state[0], state[1]) for x in book.near() for state in book.row_states(x)]


def parting_of(one, two):
    """A parting of two pasts; None if they are alike."""
    book, other = books_of(one, two)
    lone = sorted(set(book.near()) ^ set(other.near()))
    if lone:
        return ((), ("event", ("fall", lone[0])))
    places = sorted(set(places_of(book)) | set(places_of(other)))
    pairs = [(place, row_at(book, place), row_at(other, place)) for place in places]
    for place, row, twin in pairs:
        if row.last != twin.last:
            return ((), ("event", report_on(place, min(row.last, twin.last) + 1, None)))
    for place, row, twin in pairs:
        if row.first != twin.first:
            return ((), ("event", ack_on(place, max(row.first, twin.first))))
    for place, row, twin in pairs:
        if row.steps != twin.steps:
            return falls_parting(book, place, row, twin)
    return None


def falls_parting(book, place, row, twin):
    """A parting by a row of which the falls alone are unlike; lasts and firsts are alike everywhere."""
    x, stretch, way = place
    k = [step[0] for step in row.steps + twin.steps if row.since(step[0]) != twin.since(step[0])][0]
    low, high = row.since(k), twin.since(k)
    if is_below(high, low):
        low, high = high, low
    address = stretch.ljust(SIGNS, "0")
    events = [("fall", y) for y in book.near() if y != x] + cleared(book, x, address, stretch)
    if k > row.first:
        events.append(ack_on(place, k))
    # One past has more on this row than the number that is told back, the other one less.
    back = (x, stretch, BACK[way])
    serial = row_at(book, back).last + 1
    between = number_between(low, high, x if way == "out" else book.name)
    events.extend([report_on(back, serial, between), ack_on(back, serial)])
    return (tuple(events), ("may", address, x))


def cleared(book, x, address, stretch):
    """Events behind which nothing counts between the node and x for other stretches of the address."""
    events = []
    for place in [(x, other, way) for other in stretches_of(address) for way in ("in", "out")]:
        last = row_at(book, place).last
        if place[1] != stretch and last > 0:
            events.extend([report_on(place, last + 1, None), ack_on(place, last + 1)])
    return events


def asked_apart(book, other, asked):
    """Whether what is asked is an asking, and so behind one of the two alone."""
    kind = kind_of(asked)
    if kind == "event" and len(asked) == 2:
        return book.takes(asked[1]) != other.takes(asked[1])
    if kind != "may" or len(asked) != 3 or not is_address(asked[1]) or not is_name(asked[2]):
        return False
    if asked[2] not in book.near() or asked[2] not in other.near():
        return False
    return book.may(asked[1], asked[2]) != other.may(asked[1], asked[2])


def parting_serves(one, two, parting):
    """Whether this is a parting of the two pasts."""
    book, other = books_of(one, two)
    if not isinstance(parting, tuple) or len(parting) != 2 or not isinstance(parting[0], tuple):
        return False
    try:
        for event in parting[0]:
            book.add_event(event)
            other.add_event(event)
    except BadPast:
        return False
    return asked_apart(book, other, parting[1])


def short_row(place, state):
    """The fewest events that make this state of the row at this place."""
    events = [report_on(place, serial, number) for serial, number in state[2]]
    return events + [ack_on(place, state[0])] if state[0] > 0 else events


def short_past(past):
    """The past with the fewest events that is alike to this one."""
    book = book_of(past)
    events = []
    for x in book.near():
        events.append(("rise", x))
        for stretch, way, state in book.row_states(x):
            events.extend(short_row((x, stretch, way), state))
    return (book.name, tuple(events))
