"""Rules of comparisons: what they let, and how they stand to the right one ([39] to [42])."""

from maypoint.forms import TERMS
from maypoint.judges import is_ring, steps_of, world_seen
from maypoint.kinds import kinds_of_m, kinds_of_x
from maypoint.nets import player_of, question
from maypoint.numbers import is_below

RIGHT = ("and", ("is", "lm"), ("all", ("or", ("not", ("less", "vx", "lx")), ("less", "lm", "vx"))))
ALL = ("all", ("less", "lm", "vx"))
LAST = ("all", ("less", "hm", "vx"))

# The nodes of the pasts that are told: whose past it is, the neighbour m, the first one beside it.
NODE = 0
M = 1
BESIDE = 2

# Between two neighbouring numbers of m's there is room for all three of another neighbour.
STEP = 10
ADDRESS = "000000"


def holds(part, row, rows):
    """Whether a part holds: `row` has what the terms stand for, `rows` the same for each neighbour x."""
    word = part[0]
    if word == "less":
        return is_below(row[TERMS.index(part[1])], row[TERMS.index(part[2])])
    if word == "is":
        return row[TERMS.index(part[1])] is not None
    if word == "not":
        return not holds(part[1], row, rows)
    if word == "and":
        return holds(part[1], row, rows) and holds(part[2], row, rows)
    if word == "or":
        return holds(part[1], row, rows) or holds(part[2], row, rows)
    if word == "all":
        return all([holds(part[1], each, rows) for each in rows])
    return any([holds(part[1], each, rows) for each in rows])


def numbers_of(book, x):
    """The v, l and h of a neighbour, by the reports for the stretch without signs."""
    heard = book.row(x, "", "in")
    return (book.row(x, "", "out").least(), heard.least(), heard.newest())


def rule_lets(rule, book, m):
    """Whether the rule lets the node of the book hand to m; the book refuses an m that is no neighbour."""
    own = numbers_of(book, m)
    return holds(rule, own, [own + numbers_of(book, x) for x in book.near()])


def lets_kinds(rule, kind, beside):
    """Whether the rule lets an m of this kind, where neighbours of these kinds stand beside it."""
    return holds(rule, kind, [kind + kind] + list(beside))


def bodies_of(part):
    """The parts with a body."""
    if part[0] in ("all", "some"):
        return [part]
    if part[0] in ("less", "is"):
        return []
    return [body for below in part[1:] for body in bodies_of(below)]


def settled_by(bodies, row):
    """Which of the parts with a body this neighbour settles by itself, as the bits of a number."""
    return sum([1 << at for at, (word, body) in enumerate(bodies) if holds(body, row, []) == (word == "some")])


def rows_beside(rule, kind):
    """Rows of neighbours beside an m of this kind, one for each way in which they settle the bodies."""
    bodies = bodies_of(rule) + bodies_of(RIGHT)
    settling = {settled_by(bodies, row): row for row in kinds_of_x(kind)}
    found = {settled_by(bodies, kind + kind): ()}
    left = list(found)
    while left:
        settled = left.pop()
        for more in settling:
            # Each neighbour that is added settles one body more at least, so there are at most five.
            if settled | more not in found:
                found[settled | more] = found[settled] + (settling[more],)
                left.append(settled | more)
    return [found[settled] for settled in found]


def witness(rule, one, other):
    """A kind of m and kinds beside it, as far as the bodies of `rule` tell, that `one` lets and `other` doesn't."""
    for kind in kinds_of_m():
        for beside in rows_beside(rule, kind):
            if lets_kinds(one, kind, beside) and not lets_kinds(other, kind, beside):
                return (kind, beside)
    return None


def place_of(rank, marks):
    """The first entry of a number of this rank, `marks` being the ranks of m's numbers."""
    below = [mark for mark in marks if mark <= rank]
    return STEP * len(below) + (rank - below[-1] if below else rank)


def events_with(i, x, kind, marks):
    """The events of the node i with a neighbour whose numbers v, l and h have these ranks."""
    v, l, h = [None if rank is None else place_of(rank, marks) for rank in kind]
    events = [("rise", x)]
    if v is not None:
        events.append(("told", x, "", 1, (v, i)))
    if l is not None:
        events.append(("heard", x, "", 1, (l, x)))
        if h != l:
            events.append(("heard", x, "", 2, None if h is None else (h, x)))
    return tuple(events)


def marks_of(row):
    """The ranks of m's numbers within a row, ascending."""
    return sorted(set([rank for rank in row[:3] if rank is not None]))


def events_beside(i, beside):
    """The events of the node i with neighbours of these kinds, which stand beside an m."""
    events = ()
    for at, row in enumerate(beside):
        events = events + events_with(i, BESIDE + at, row[3:], marks_of(row))
    return events


def past_of(case):
    """A past in which m is of this kind and the other neighbours are of these."""
    kind, beside = case
    return (NODE, events_with(NODE, M, kind, marks_of(kind)) + events_beside(NODE, beside))


def net_of(case):
    """A run and a ring for a case that a rule lets beside all that is right."""
    past = past_of(case)
    answer = question(past, ADDRESS, M)
    if answer[0] == "net":
        return answer[1:]
    # Nothing counts between the two, and nobody is up: let m see the same of its other neighbours and of the node.
    twin = (M, events_beside(M, case[1]))
    return (tuple(player_of(past).run + player_of(twin).run), (NODE, M))


def judge_rule(rule):
    """How the rule stands to RIGHT over all books."""
    less, more = witness(rule, RIGHT, rule), witness(rule, rule, RIGHT)
    if less is not None and more is not None:
        return ("mixed", past_of(less), M, past_of(more), M)
    if less is not None:
        return ("less", past_of(less), M)
    if more is not None:
        return ("more", past_of(more), M) + net_of(more)
    return ("same",)


def rule_net_serves(rule, past, m, run, ring):
    """Whether the run ends in this past, and the ring is one of handings that the rule lets, that of the node too."""
    if not is_ring(past[0], m, ring):
        return False
    world = world_seen(past, run)
    if world is None:
        return False
    for one, other in steps_of(ring):
        book = world.book(one)
        if other not in book.near() or not rule_lets(rule, book, other):
            return False
    return True
