"""Kinds: how the numbers that a rule looks at lie among one another ([40])."""


def ranked(kind):
    """A kind as it is sorted: NONE is above all."""
    return tuple([len(kind) if rank is None else rank for rank in kind])


def many_in(row):
    """How many unlike numbers stand in a row."""
    return max([-1] + [rank for rank in row if rank is not None]) + 1


def with_new(row, rank):
    """The row with one more number, unlike all that stand there, at this rank among them."""
    return tuple([old + 1 if old is not None and old >= rank else old for old in row]) + (rank,)


def with_reports(row):
    """The row with each (l, h) that the reports of one more teller may leave."""
    rows = [row + (None, None)]
    for rank in range(many_in(row) + 1):
        least = with_new(row, rank)
        # What was told last counts for ever, so it is NONE or not below the least.
        rows.extend([least + (None,), least + (rank,)])
        rows.extend([with_new(least, later) for later in range(rank + 1, many_in(least) + 1)])
    return rows


def kinds_of_m():
    """All kinds that a neighbour has in any book."""
    return tuple(sorted(with_reports((None,)) + with_reports((0,)), key=ranked))


def kinds_of_x(kind):
    """All kinds that another neighbour has beside one of this kind."""
    told = [kind + (None,)] + [with_new(kind, rank) for rank in range(many_in(kind) + 1)]
    if kind[0] is not None:
        # Both were told by the node itself, so these two may be alike.
        told.append(kind + (kind[0],))
    return tuple(sorted([row for start in told for row in with_reports(start)], key=ranked))
