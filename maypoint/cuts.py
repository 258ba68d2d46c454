"""What the cuts of a journal tell, and which of them are wrong ([66], [68], [69])."""

from maypoint.numbers import is_below


def limit_of(rows):
    """The limit that a cut of just these rows tells."""
    return max([0] + [row[1] for row in rows if row[0] == "limit"])


def told_by_cuts(rows, flushed):
    """By (word, x, life, stretch): the numbers that the cuts of so many rows or more tell, NONE where no row stands."""
    told = {}
    for at, row in enumerate(rows):
        place, number = row[:-1], row[-1]
        if at < flushed:
            # No cut is without this row, so none tells what stands ahead of it.
            told[place] = [number]
        else:
            told.setdefault(place, [None]).append(number)
    return told


def is_above(told, place, number):
    """Whether some cut tells more than this number for the place."""
    return any([is_below(number, other) for other in told.get(place, [None])])


def is_under(told, place, number):
    """Whether some cut tells less than this number for the place."""
    return any([is_below(other, number) for other in told.get(place, [None])])


def rows_out(book):
    """The rows of reports that the node told: (x, stretch, state)."""
    rows = [(x, row) for x in book.near() for row in book.row_states(x)]
    return [(x, stretch, state) for x, (stretch, way, state) in rows if way == "out"]


def wrong_floor(book, told):
    """The (x, stretch) of a floor that is wrong; None if there is none."""
    for x, stretch, state in rows_out(book):
        if is_above(told, ("floor", x, book.lives[x], stretch), book.row(x, stretch, "out").least()):
            return (x, stretch)
    return None


def wrong_ceiling(book, told):
    """The (x, stretch) of a ceiling that is wrong; None if there is none."""
    for place in told:
        if place[0] == "ceiling" and place[1] in book.near() and place[2] == book.lives[place[1]]:
            if is_under(told, place, book.row(place[1], place[3], "in").least()):
                return (place[1], place[3])
    return None


def wrong_limit(book, limit):
    """The (x, stretch) of a report above the limit; None if there is none."""
    for x, stretch, state in rows_out(book):
        if state[1] > limit:
            return (x, stretch)
    return None


def first_wrong(book, rows, flushed):
    """The first word that is wrong in a cut of so many rows or more, with its (x, stretch); None if all are right.

    The book is that of all that the node has seen, stops or none.
    """
    told = told_by_cuts(rows, flushed)
    floor, ceiling = wrong_floor(book, told), wrong_ceiling(book, told)
    # A cut with more rows tells no lesser limit.
    limit = wrong_limit(book, limit_of(rows[:flushed]))
    for word, place in (("floor", floor), ("ceiling", ceiling), ("limit", limit)):
        if place is not None:
            return (word,) + place
    return None
