"""Section 19 read plainly: stories by whole lists of reports, journals by all their cuts; and stories by chance.

Of the program nothing is asked, so that one may be held against the other.
"""

import copy
import random

from tests import plain
from tests.plain import PlainRow, below, key_of, least
from tests.test_journal import is_row

PAST = ("rise", "fall", "told", "heard", "acks", "backs")
ADDRESSES = ("010111", "011010", "000000", "110000")


def limit(cut):
    return max([row[1] for row in cut if row[0] == "limit"], default=0)


def last_told(cut, word, x, life, p):
    """The floor or ceiling of a cut."""
    numbers = [row[4] for row in cut if row[:4] == (word, x, life, p)]
    return numbers[-1] if numbers else None


class PlainBook:
    """[67]: what the last start tells, and what came since."""

    def __init__(self, name):
        self.name, self.lives, self.near, self.rows, self.seen, self.start = name, {}, [], {}, {}, ()
        self.stood = []

    def row(self, x, p, way):
        if (x, p, way) not in self.rows:
            row = PlainRow()
            if x in self.stood:
                first = limit(self.start) if way == "out" else 0
                number = last_told(self.start, {"out": "floor", "in": "ceiling"}[way], x, self.lives[x], p)
                if first or number is not None:
                    row = PlainRow([(first, number)], first, first)
            self.rows[x, p, way] = row
        return self.rows[x, p, way]

    def sees(self, event):
        """Whether it takes the event."""
        kind, x = event[:2]
        if kind == "rise":
            self.near.append(x)
            self.lives[x] = self.lives.get(x, 0) + 1
            return True
        if kind == "fall":
            self.near.remove(x)
            self.stood = [y for y in self.stood if y != x]
            self.rows = {place: self.rows[place] for place in self.rows if place[0] != x}
            self.seen = {place: True for place in self.seen if place[0] != x}
            return True
        row = self.row(x, event[2], "out" if kind in ("told", "backs") else "in")
        if kind in ("told", "heard"):
            self.seen[x, event[2], "out" if kind == "told" else "in"] = True
            return row.told(event[3], event[4])
        return row.acked(event[3])

    def started(self, cut):
        """The own book behind a start with these rows, by the same links and lives."""
        book = PlainBook(self.name)
        book.lives, book.near, book.stood, book.start = dict(self.lives), list(self.near), list(self.near), tuple(cut)
        return book

    # What is asked of it, as [20] to [23] tell it.

    def row_states(self, x):
        places = {(p, way) for y, p, way in self.seen if y == x}
        if x in self.stood:
            for row in self.start:
                if row[0] != "limit" and row[1:3] == (x, self.lives[x]):
                    places.add((row[3], "out" if row[0] == "floor" else "in"))
        return tuple((p, way, self.row(x, p, way).state()) for p, way in sorted(places))

    def key(self, address, x, way):
        return least([key_of(p, self.row(x, p, way).least()) for p in [address[:many] for many in range(7)]])

    def v(self, address, x):
        return self.key(address, x, "out")

    def l(self, address, x):
        return self.key(address, x, "in")

    def up(self, address):
        return tuple(x for x in sorted(self.near) if below(self.v(address, x), self.l(address, x)))

    def may(self, address, m):
        heard = self.l(address, m)
        return heard is not None and all(below(heard, self.v(address, x)) for x in self.up(address))

    def let(self, address):
        return tuple(m for m in sorted(self.near) if self.may(address, m))

    def why(self, address, m):
        if self.may(address, m):
            return None
        if m in self.up(address):
            return ("up", m)
        for x in self.up(address):
            if below(self.v(address, x), self.l(address, m)):
                return ("up", x)
        return ("none",)

    def room(self, address, m):
        return least([self.v(address, x) for x in [m] + [x for x in self.up(address) if x != m]])


def asked(book, addresses=ADDRESSES):
    """All that a book answers, a plain one or the program's."""
    near = tuple(sorted(book.near)) if type(book) is PlainBook else book.near()
    return (book.name, near, [book.row_states(x) for x in near],
            [[(book.v(a, x), book.l(a, x), book.may(a, x), book.why(a, x), book.room(a, x)) for x in near] + [book.up(a), book.let(a)] for a in addresses])


class PlainStory:
    """A story as it goes: the true book, the own one, the journal."""

    def __init__(self, name):
        self.name, self.events, self.rows, self.flushed = name, [], (), 0
        self.true, self.own = PlainBook(name), PlainBook(name)
        self.acked = {}
        self.came = {}

    def past(self):
        return (self.name, tuple(event for event in self.events if event[0] in PAST))

    def cuts(self):
        return [self.rows[:many] for many in range(self.flushed, len(self.rows) + 1)]

    def may_write(self, row):
        if not is_row(row) or row[0] == "limit":
            return is_row(row)
        teller = self.name if row[0] == "floor" else row[1]
        return row[1] in self.true.near and row[2] == self.true.lives[row[1]] and (row[4] is None or row[4][-1] == teller)

    def may_see(self, event):
        """[19], by the true rows; then [67], by the own ones."""
        if not plain.is_event(self.name, event):
            return False
        kind, x = event[:2]
        if kind == "rise":
            return x not in self.true.near
        if x not in self.true.near or kind == "fall":
            return x in self.true.near
        row = self.true.row(x, event[2], "out" if kind in ("told", "backs") else "in")
        if kind in ("told", "heard"):
            if event[3] <= row.last:
                return False
        elif not row.first < event[3] <= row.last:
            return False
        if x in self.own.stood and kind == "told":
            return event[3] > self.own.row(x, event[2], "out").last
        if x in self.own.stood and kind == "acks":
            came = self.came.get((x, event[2]), [])
            return bool(came) and event[3] >= min(came)
        return True

    def may_come(self, event):
        if type(event) is not tuple or not event:
            return False
        if event[0] == "write":
            return len(event) == 2 and self.may_write(event[1])
        if event[0] == "flush":
            return len(event) == 1
        if event[0] == "stop":
            return len(event) == 2 and type(event[1]) is int and self.flushed <= event[1] <= len(self.rows)
        return self.may_see(event)

    def sees(self, event):
        self.events.append(event)
        if event[0] == "write":
            self.rows += (event[1],)
        elif event[0] == "flush":
            self.flushed = len(self.rows)
        elif event[0] == "stop":
            self.rows, self.flushed = self.rows[:event[1]], event[1]
            self.own, self.came = self.own.started(self.rows), {}
        else:
            assert self.true.sees(event)
            assert self.own.sees(event) or event[0] == "backs"
            if event[0] == "heard":
                self.came.setdefault(event[1:3], []).append(event[3])
            if event[0] == "fall":
                self.came = {place: self.came[place] for place in self.came if place[0] != event[1]}

    def needed(self, event):
        """[68], cut by cut."""
        if event[0] not in ("told", "acks"):
            return ()
        x, p, life = event[1], event[2], self.own.lives[event[1]]
        row = self.own.row(x, p, "out" if event[0] == "told" else "in")
        row = PlainRow(row.reports, row.first, row.last)
        if event[0] == "acks":
            assert row.acked(event[3])
            wrong = any(below(last_told(cut, "ceiling", x, life, p), row.least()) for cut in self.cuts())
            return (("ceiling", x, life, p, row.least()),) * wrong
        assert row.told(*event[3:])
        wrong = any(below(row.least(), last_told(cut, "floor", x, life, p)) for cut in self.cuts())
        short = any(limit(cut) < event[3] for cut in self.cuts())
        return (("floor", x, life, p, row.least()),) * wrong + (("limit", event[3]),) * short

    def keeps(self, event):
        """The event comes behind the rows that it needs."""
        needed = self.needed(event)
        for row in needed:
            self.sees(("write", row))
        if needed:
            self.sees(("flush",))
        self.sees(event)
        return needed

    def wrong(self):
        """[69]: the first of the three words that is so of a cut that may survive now."""
        words = set()
        for cut in self.cuts():
            for x in self.true.near:
                life = self.true.lives[x]
                for p in {row[3] for row in cut if row[0] != "limit"} | {place[1] for place in self.true.rows if place[0] == x}:
                    if below(self.true.row(x, p, "out").least(), last_told(cut, "floor", x, life, p)):
                        words.add("floor")
                    if below(last_told(cut, "ceiling", x, life, p), self.true.row(x, p, "in").least()):
                        words.add("ceiling")
                    if self.true.row(x, p, "out").last > limit(cut):
                        words.add("limit")
        return next((word for word in ("floor", "ceiling", "limit") if word in words), None)


def plain_story(story):
    course = PlainStory(story[0])
    for event in story[1]:
        course.sees(event)
    return course


def fault(story):
    course = PlainStory(story[0])
    for at, event in enumerate(story[1]):
        course.sees(event)
        if course.wrong():
            return (at, course.wrong())
    return None


def first_bad(story):
    """What `check_story` tells; None for a story."""
    if type(story) is not tuple or len(story) != 2 or not plain.is_name(story[0]) or type(story[1]) is not tuple:
        return -1
    course = PlainStory(story[0])
    for at, event in enumerate(story[1]):
        if not course.may_come(event):
            return at
        course.sees(event)
    return None


# Stories by chance.

STRETCHES = ("", "0", "01", "010111", "1")


def number(chance, name):
    if chance.random() < 0.2:
        return None
    return (chance.randrange(7),) + (chance.randrange(-1, 2),) * chance.choice((0, 0, 1)) + (name,)


def near_whole(chance, *wholes):
    return max(1, chance.choice(wholes) + chance.choice((-1, 0, 0, 1, 1, 1, 2, 5)))


def past_event(chance, course, names):
    """An event of the past that may come, or nearly so."""
    x = chance.choice(course.true.near if course.true.near and chance.random() < 0.97 else names)
    kind = chance.choice(("rise", "fall") + ("told", "heard") * 12 + ("acks", "backs") * 9)
    if x not in course.true.near or kind in ("rise", "fall") and chance.random() < 0.5:
        return ("rise" if x not in course.true.near else "fall", x)
    if kind in ("rise", "fall"):
        return ("rise", chance.choice(names))
    way = "out" if kind in ("told", "backs") else "in"
    due = [p for p in STRETCHES if course.true.row(x, p, way).first < course.true.row(x, p, way).last]
    p = chance.choice(due if due and kind in ("acks", "backs") else STRETCHES)
    true, own = course.true.row(x, p, way), course.own.row(x, p, way)
    if kind in ("told", "heard"):
        return (kind, x, p, near_whole(chance, true.last, true.last, own.last), number(chance, course.name if kind == "told" else x))
    return (kind, x, p, near_whole(chance, true.last, true.first, own.last, (true.first + true.last) // 2))


def row(chance, course, names):
    """A row of the journal that may be written, or nearly so: true ones, and such as are too high or too low."""
    if chance.random() < 0.3:
        tops = [course.true.row(x, p, "out").last for x in course.true.near for p in STRETCHES]
        return ("limit", near_whole(chance, *tops + [3]))
    x = chance.choice(course.true.near if course.true.near and chance.random() < 0.97 else names)
    life = course.true.lives.get(x, 0) + chance.choice((0,) * 20 + (1, -1))
    p, word = chance.choice(STRETCHES), chance.choice(("floor", "ceiling"))
    true = course.true.row(x, p, "out" if word == "floor" else "in") if x in course.true.near else PlainRow()
    told = chance.choice((true.least(), true.least(), true.newest(), number(chance, course.name if word == "floor" else x)))
    if told is not None and chance.random() < 0.1:
        told = (told[0] + chance.choice((0, 1)),) + told[1:-1] + (chance.choice((told[-1], course.name, x)),)
    return (word, x, life, p, told)


def event(chance, course, names, weights=(30, 6, 3, 1)):
    """An event of a story by chance: of the past, a row, a flush or a stop."""
    kind = chance.choices(("past", "write", "flush", "stop"), weights)[0]
    if kind == "past":
        return past_event(chance, course, names)
    if kind == "write":
        return ("write", row(chance, course, names))
    if kind == "flush":
        return ("flush",)
    return ("stop", chance.randint(course.flushed, len(course.rows)) + chance.choice((0,) * 20 + (1, -1)))


def story_by_chance(chance, many, keeps=0.7, weights=(30, 6, 3, 1)):
    """A story of so many events as it goes; most rows that are needed are written ahead of what needs them."""
    name, *names = chance.sample(range(32), chance.choice((2, 3, 4, 8)))
    course = PlainStory(name)
    for x in names[:2]:
        course.sees(("rise", x))
    while len(course.events) < many:
        drawn = event(chance, course, names, weights)
        if not course.may_come(drawn):
            continue
        if drawn[0] in ("told", "acks") and chance.random() < keeps:
            course.keeps(drawn)
        else:
            course.sees(drawn)
    return course


def story_of(course):
    return (course.name, tuple(course.events))


def without_fault(chance, many, weights=(30, 8, 3, 2), others=8):
    """A story without a fault as it goes: rows are written ahead and late, but none of them is ever wrong."""
    name, *names = chance.sample(range(32), others)
    course = PlainStory(name)
    for x in names[:2]:
        course.sees(("rise", x))
    while len(course.events) < many:
        drawn = event(chance, course, names, weights)
        if course.may_come(drawn):
            after = copy.deepcopy(course)
            if chance.random() < 0.6:
                after.keeps(drawn)
            else:
                after.sees(drawn)
            if not after.wrong():
                course = after
    return course


def trap(chance, course, kind):
    """Events behind which an event of this kind is likely to be a fault: rows that are right just now, and numbers told."""
    x, p = chance.choice(course.true.near), chance.choice(STRETCHES)
    low, high = chance.randrange(1, 5), chance.choice((None, 5, 7))
    heard, told = course.true.row(x, p, "in").last, max(course.true.row(x, p, "out").last, course.own.row(x, p, "out").last)
    life, name = course.true.lives[x], course.name
    if kind == "acks":
        return (("heard", x, p, heard + 1, (low, x)), ("heard", x, p, heard + 2, high and (high, x)),
                ("write", ("ceiling", x, life, p, (low, x))), ("flush",) if chance.random() < 0.5 else ("write", ("ceiling", x, life, p, (low, x))))
    if kind == "told":
        return (("write", ("limit", told + chance.choice((0, 1)))), ("write", ("floor", x, life, p, (chance.choice((0, low)), name))), ("flush",),
                ("told", x, p, told + 1, high and (high, name)))
    return (("write", ("limit", told + 9)), ("write", ("floor", x, life, p, (low, name))), ("flush",), ("told", x, p, told + 1, (low, name)))


def with_fault(chance, many, kinds=("told", "acks", "write"), weights=(30, 8, 3, 2), others=8, tries=300):
    """A story of which the last event, one of these kinds, is its first fault; None if none is found."""
    course = without_fault(chance, many, weights, others)
    ahead = ()
    for ahead in trap(chance, course, chance.choice(kinds)) if course.true.near and chance.random() < 0.8 else ():
        after = copy.deepcopy(course)
        if after.may_come(ahead):
            after.keeps(ahead)
            course = course if after.wrong() else after
    for at in range(tries):
        drawn = event(chance, course, course.true.near or range(32), chance.choice(((1, 0, 0, 0), (0, 1, 0, 0))))
        if at < 5 and ahead and "told" in kinds:
            # One report more on the row of the trap.
            drawn = ("told",) + ahead[1:3] + (ahead[3] + 1 + at, (chance.randrange(6), course.name)) if ahead[0] == "told" else drawn
        if drawn[0] in kinds and course.may_come(drawn):
            after = copy.deepcopy(course)
            after.sees(drawn)
            if after.wrong():
                return after
    return None


def faulty_stories(seed, many):
    """Stories of which the last event is the first fault, of every kind."""
    chance = random.Random(seed)
    while many:
        kinds = chance.choice((("told",), ("acks",), ("write",), ("told", "acks", "write")))
        course = with_fault(chance, chance.choice((2, 6, 12, 25, 40)), kinds, chance.choice(((30, 8, 3, 2), (30, 25, 2, 2))), chance.choice((2, 2, 4, 8)))
        if course is not None:
            many -= 1
            yield chance, course


def renamed(event, name, other):
    """The event of another node: its own numbers are that node's, also where its name stands within them."""
    if type(event) is not tuple:
        return event
    if plain.is_number(event) and event[-1] == name:
        return tuple(other if entry == name else entry for entry in event)
    return tuple(renamed(part, name, other) for part in event)
