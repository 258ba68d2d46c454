"""Nodes that stop and start again with what their journals tell ([67] to [69])."""

from maypoint.books import SIZES, WAYS, Book, names_node
from maypoint.cuts import first_wrong, is_above, is_under, limit_of, told_by_cuts
from maypoint.errors import BadPast, Refused
from maypoint.journal import Journal, is_row, opened_journal
from maypoint.judges import world_seen
from maypoint.nets import player_of
from maypoint.numbers import is_name, is_whole, number_between
from maypoint.parts import kind_of
from maypoint.rows import begun_row
from maypoint.stretches import SIGNS, is_address, stretches_of


def begun_rows(rows, x, life, limit):
    """By (stretch, way): the rows that the floors and ceilings of this life of the link begin."""
    begun = {}
    for row in rows:
        if row[1:3] == (x, life):
            way = "out" if row[0] == "floor" else "in"
            begun[(row[3], way)] = begun_row(limit if way == "out" else 0, row[4])
    return begun


def started_book(name, rows, links, elder):
    """The own book behind a start with these rows, links that stand and links that fell."""
    book = Book(name)
    limit = limit_of(rows)
    book.lives = {x: life for x, life in elder + links}
    for x, life in links:
        book.rows[x] = begun_rows(rows, x, life, limit)
        book.limits[x] = limit
    return book


class Course:
    """How a story goes: all that the node has seen, its journal, and its own book."""

    def __init__(self, name):
        self.events = ()
        self.journal = Journal()
        # What the node has seen, stops or none.
        self.whole = Book(name)
        self.own = Book(name)
        # By near name, of links that have stood since the last start: by stretch, the first serial that came since.
        self.firsts = {}

    def takes(self, event):
        """Whether this is an event that may come."""
        kind = kind_of(event)
        if kind == "flush":
            return len(event) == 1
        if kind == "write":
            return len(event) == 2 and self._may_write(event[1])
        if kind == "stop":
            return len(event) == 2 and is_whole(event[1]) and event[1] in self.journal.cuts()
        return self.whole.takes(event) and self._fits_start(event)

    def _may_write(self, row):
        """Whether this is a row that the node may write now."""
        if not is_row(row) or row[0] == "limit":
            return is_row(row)
        x, life, number = row[1], row[2], row[4]
        if x not in self.whole.near() or life != self.whole.lives[x]:
            return False
        return number is None or number[-1] == (self.whole.name if row[0] == "floor" else x)

    def _fits_start(self, event):
        """Whether an event of the past agrees with what the node knows since its last start."""
        kind, x = event[0], event[1]
        if x not in self.firsts:
            return True
        if kind == "told":
            return self.own.takes(event)
        return kind != "acks" or event[2] in self.firsts[x] and event[3] >= self.firsts[x][event[2]]

    def sees(self, event):
        """The event comes, which may come."""
        if event[0] == "write":
            self.journal.write(event[1])
        elif event[0] == "flush":
            self.journal.flush()
        elif event[0] == "stop":
            self._stop(event[1])
        else:
            self._see(event)
        self.events = self.events + (event,)

    def _stop(self, many):
        """The node stops, so many rows are left, and it starts."""
        near, lives = self.whole.near(), self.whole.lives
        self.journal = opened_journal(self.journal.rows_left(many))
        links = tuple([(x, lives[x]) for x in near])
        elder = tuple([(x, lives[x]) for x in lives if x not in near])
        self.own = started_book(self.whole.name, self.journal.rows, links, elder)
        self.firsts = {x: {} for x in near}

    def _see(self, event):
        """The node sees an event of the past."""
        kind, x = event[0], event[1]
        self.whole.add_event(event)
        # All that it may not take is an acknowledgement that comes back, and this is thrown away.
        if self.own.takes(event):
            self.own.add_event(event)
        if kind == "fall":
            self.firsts.pop(x, None)
        elif kind == "heard" and x in self.firsts:
            self.firsts[x].setdefault(event[2], event[3])

    def true_past(self):
        """All that the node has seen, stops or none."""
        return (self.whole.name, tuple([event for event in self.events if event[0] in SIZES]))


def course_of(story):
    """How this story goes."""
    if not names_node(story):
        raise BadPast(-1)
    course = Course(story[0])
    for at, event in enumerate(story[1]):
        if not course.takes(event):
            raise BadPast(at)
        course.sees(event)
    return course


def check_story(story):
    """The value itself, if it is a story."""
    course_of(story)
    return story


def story_book(story):
    """The own book at the end of a story."""
    return course_of(story).own


def needed_rows(book, rows, flushed, event):
    """The rows that must be written, and flushed, ahead of this event."""
    if event[0] not in ("told", "acks"):
        return ()
    x, stretch = event[1], event[2]
    told = told_by_cuts(rows, flushed)
    row = book.row(x, stretch, WAYS[event[0]]).copied()
    if event[0] == "acks":
        row.acked(event[3])
        place = ("ceiling", x, book.lives[x], stretch)
        return (place + (row.least(),),) if is_under(told, place, row.least()) else ()
    row.told(event[3], event[4])
    place = ("floor", x, book.lives[x], stretch)
    floors = (place + (row.least(),),) if is_above(told, place, row.least()) else ()
    limits = (("limit", event[3]),) if limit_of(rows[:flushed]) < event[3] else ()
    return floors + limits


def needed_now(course, event):
    """The rows that are needed ahead of an event, as the story goes."""
    return needed_rows(course.own, course.journal.rows, course.journal.flushed, event)


def kept(course, event):
    """Lets an event come behind the rows that are needed ahead of it; tells these."""
    needed = needed_now(course, event)
    for row in needed:
        course.sees(("write", row))
    if needed:
        course.sees(("flush",))
    course.sees(event)
    return needed


class Keeper:
    """A node that writes by itself what it must."""

    def __init__(self, name):
        self.course = Course(name)

    def do(self, event):
        """An event of its story comes; tells the rows that are needed ahead of it."""
        if not self.course.takes(event):
            raise Refused(event)
        return kept(self.course, event)

    def story(self):
        """Its story so far."""
        return (self.course.whole.name, self.course.events)

    def let(self, address):
        """To whom its own book lets it hand a letter."""
        return self.course.own.let(address)

    def book(self):
        """A copy of its own book."""
        return self.course.own.copied()


def wrong_now(course):
    """What is wrong first in a cut that may survive now; None if nothing is."""
    return first_wrong(course.whole, course.journal.rows, course.journal.flushed)


def story_fault(story):
    """Where a story is wrong first, and by which word; None if it never is."""
    course = Course(story[0])
    for at, event in enumerate(story[1]):
        course.sees(event)
        wrong = wrong_now(course)
        if wrong is not None:
            return (at, wrong[0])
    return None


def wrong_cut(course, word):
    """A cut that may survive now and is wrong first by this word, as (many, x, stretch)."""
    for many in course.journal.cuts():
        wrong = first_wrong(course.whole, course.journal.rows_left(many), many)
        if wrong is not None and wrong[0] == word:
            return (many,) + wrong[1:]
    return None


def next_serial(course, x, stretch, way):
    """A serial that may be told next, by all that was seen and by the own book."""
    return 1 + max(course.whole.row(x, stretch, way).last, course.own.row(x, stretch, way).last)


def hear(course, x, stretch, number):
    """The neighbour tells a number, and the node acknowledges it."""
    serial = next_serial(course, x, stretch, "in")
    kept(course, ("heard", x, stretch, serial, number))
    kept(course, ("acks", x, stretch, serial))


def tell(course, x, stretch, number):
    """The node tells a number, and the neighbour acknowledges it."""
    serial = next_serial(course, x, stretch, "out")
    kept(course, ("told", x, stretch, serial, number))
    kept(course, ("backs", x, stretch, serial))


def counts(course, x, stretch, way):
    """Whether any number of a row may still count, by all that was seen or by the own book."""
    return course.whole.row(x, stretch, way).least() is not None or course.own.row(x, stretch, way).least() is not None


def leave_alone(course, x, stretch, address):
    """All links but that to x fall, and of the address nothing counts any more but what is for this stretch."""
    for other in course.whole.near():
        if other != x:
            kept(course, ("fall", other))
    for other in stretches_of(address):
        if other != stretch and counts(course, x, other, "out"):
            tell(course, x, other, None)
        if other != stretch and counts(course, x, other, "in"):
            hear(course, x, other, None)


def tell_apart(course, x, stretch, word, event):
    """Shows that the cut is wrong by this word: from then on the node and x let one another."""
    true, own = course.whole, course.own
    if word == "floor":
        # The node goes by its floor, and x by the lesser number that it heard.
        low, high = true.row(x, stretch, "out").least(), own.row(x, stretch, "out").least()
        hear(course, x, stretch, number_between(low, high, x))
    elif word == "ceiling":
        # The node goes by its ceiling, and x by the greater number that it told.
        low, high = own.row(x, stretch, "in").least(), true.row(x, stretch, "in").least()
        tell(course, x, stretch, number_between(low, high, true.name))
    else:
        # The own book does not know the report that is acknowledged, and takes it that only NONE counts.
        kept(course, ("told", x, stretch, event[3] + 1, None))
        kept(course, ("backs", x, stretch, event[3]))
        hear(course, x, stretch, number_between(event[4], None, x))


def stop_net(story, at):
    """A net that shows that the story is wrong first at this index."""
    fault = story_fault(story)
    if fault is None or fault[0] != at or fault[1] == "limit" and story[1][at][4] is None:
        raise Refused(at)
    course = course_of((story[0], story[1][:at + 1]))
    many, x, stretch = wrong_cut(course, fault[1])
    steps = course.whole.row(x, stretch, "out").steps
    address = stretch.ljust(SIGNS, "0")
    course.sees(("stop", many))
    leave_alone(course, x, stretch, address)
    tell_apart(course, x, stretch, fault[1], story[1][at])
    player = player_of(course.true_past())
    if fault[1] == "floor":
        # Let x have heard the least number that counts; the node does not see it.
        player.hear(x, stretch, steps[0][0])
    return (course.events[at + 1:], tuple(player.run), address, x)


def tail_may_come(course, tail):
    """Whether these events may come, the first one a stop and no other one, and no row is needed; they come then."""
    for at, event in enumerate(tail):
        if not course.takes(event) or (event[0] == "stop") != (at == 0) or needed_now(course, event):
            return False
        course.sees(event)
    return len(tail) > 0


def stop_net_serves(story, at, net):
    """Whether this is a net for the story up to this index."""
    if not 0 <= at < len(story[1]) or not isinstance(net, tuple) or len(net) != 4:
        return False
    tail, run, address, x = net
    if not isinstance(tail, tuple) or not is_address(address) or not is_name(x):
        return False
    course = course_of((story[0], story[1][:at + 1]))
    if not tail_may_come(course, tail) or x not in course.own.let(address):
        return False
    world = world_seen(course.true_past(), run)
    return world is not None and story[0] in world.book(x).let(address)
