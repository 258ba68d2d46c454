"""[35] to [37]."""

import itertools
import random
import unittest

from maypoint.alike import are_alike, parting_of, parting_serves, short_past
from maypoint.books import check_past
from maypoint.errors import Refused
from tests import chance as drawn
from tests import plain
from tests.support import any_values, has_list, outcome, raised, returned, untouched


def states(past):
    """All that a past leaves: by neighbour its rows, read off the list of events."""
    events = list(past[1])
    return {x: plain.row_states(events, x) for x in plain.near(events)}


def serves(one, two, parting):
    """[36], condition by condition."""
    if type(parting) is not tuple or len(parting) != 2 or type(parting[0]) is not tuple:
        return False
    i, rows = one[0], [list(one[1]), list(two[1])]
    for event in parting[0]:
        if not all(plain.may_come(i, events, event) for events in rows):
            return False
        for events in rows:
            events.append(event)
    asked = parting[1]
    if type(asked) is not tuple or not asked:
        return False
    if asked[0] == "event" and len(asked) == 2:
        return plain.may_come(i, rows[0], asked[1]) != plain.may_come(i, rows[1], asked[1])
    if asked[0] != "may" or len(asked) != 3 or not plain.is_stretch(asked[1]) or len(asked[1]) != 6:
        return False
    if not plain.is_name(asked[2]) or not all(asked[2] in plain.near(events) for events in rows):
        return False
    return plain.may(rows[0], asked[1], asked[2]) != plain.may(rows[1], asked[1], asked[2])


def short(past):
    """[37] by the words."""
    events = []
    for x, rows in sorted(states(past).items()):
        events.append(("rise", x))
        for p, way, (first, last, falls) in rows:
            events += [("heard" if way == "in" else "told", x, p) + fall for fall in falls]
            events += [("acks" if way == "in" else "backs", x, p, first)] * (first > 0)
    return (past[0], tuple(events))


def shuffled(chance, past):
    """A past of the same events in another order: those of one row keep theirs, and rises stay ahead."""
    rows = {}
    for x in plain.near(past[1]):
        for event in plain.life(list(past[1]), x):
            rows.setdefault((x, event[2], event[0] in ("told", "backs")), []).append(event)
    events = [("rise", x) for x in plain.near(past[1])]
    chance.shuffle(events)
    while rows:
        row = chance.choice(sorted(rows))
        events.append(rows[row].pop(0))
        rows = {place: rows[place] for place in rows if rows[place]}
    return (past[0], tuple(events))


def with_more(chance, past):
    """A past that is alike: a number told ahead of a lesser one of the same row, where a serial is free."""
    events = list(past[1])
    for at, event in enumerate(events):
        if event[0] in ("told", "heard") and event[4] is not None and chance.random() < 0.5:
            more = event[:3] + (event[3] - 1, (event[4][0] + 1,) + event[4][1:])
            if plain.may_come(past[0], events[:at], more):
                return (past[0], tuple(events[:at] + [more] + events[at:]))
    return past


def with_old_life(past):
    """A past that is alike: with links that rose and fell ahead of it, and one whose link fell."""
    i, name = past[0], min(set(range(8)) - {past[0]} - set(plain.near(past[1])))
    old = (("rise", name), ("told", name, "", 7, (3, i)), ("heard", name, "", 9, (4, name)), ("acks", name, "", 8), ("fall", name))
    for x in plain.near(past[1]):
        old += (("rise", x), ("told", x, "1", 3, None), ("fall", x))
    return (i, old + past[1])


def one_report_changed(chance, past):
    """A past of which one report is another one, if such a past comes out."""
    events = list(past[1])
    places = [at for at, event in enumerate(events) if len(event) == 5]
    if not places:
        return past
    at = chance.choice(places)
    event = events[at]
    teller = past[0] if event[0] == "told" else event[1]
    number = chance.choice((None, (chance.randrange(8), teller), (chance.randrange(8), 0, teller)))
    serial = event[3] + chance.choice((0, 0, 1))
    return (past[0], tuple(events[:at] + [event[:3] + (serial, number)] + events[at + 1:]))


def one_event_fewer(chance, past):
    at = chance.randrange(len(past[1]) + 1)
    return (past[0], past[1][:at] + past[1][at + 1:])


def one_event_more(chance, past):
    i, events = past[0], list(past[1])
    near = plain.near(events)
    x = chance.choice([name for name in range(32) if name != i])
    event = chance.choice((("rise", x), ("fall", x)))
    if near and chance.random() < 0.8:
        x = chance.choice(near)
        p = chance.choice(plain.STRETCHES + tuple(event[2] for event in events if len(event) > 2))
        kind = chance.choice(("told", "heard", "acks", "backs"))
        told = plain.of_kind(events, x, {"acks": "heard", "backs": "told"}.get(kind, kind), p)
        k = told[-1][3] if told else 0
        event = (kind, x, p, k)
        if kind in ("told", "heard"):
            event = (kind, x, p, k + 1, drawn.number(chance, i if kind == "told" else x))
    return (i, tuple(events + [event]))


class Alike(unittest.TestCase):

    def check(self, one, two):
        """Two pasts of one node, either way round, by a plain reading; whether they are alike."""
        same = states(one) == states(two)
        for past, other in ((one, two), (two, one)):
            self.assertEqual(untouched(are_alike, past, other), (returned(same), True), (past, other))
            parting = parting_of(past, other)
            self.assertEqual(parting is None, same, (past, other))
            if not same:
                self.assertFalse(has_list(parting))
                self.assertTrue(serves(past, other, parting), (past, other, parting))
                self.assertLessEqual(len(parting[0]), 40)
                self.assertIs(parting_serves(past, other, parting), True)
            self.assertIs(parting_serves(past, other, None), False)
        return same

    def test_alike_by_their_making(self):
        chance = random.Random(35)
        for _ in range(120):
            past, _ = drawn.rich_past(chance, chance.choice((0, 5, 15, 40)))
            for made in (past, short_past(past), shuffled(chance, past), with_more(chance, past), with_old_life(past),
                         with_old_life(shuffled(chance, with_more(chance, past)))):
                check_past(made)
                self.assertTrue(self.check(past, made))

    def test_changed_a_little(self):
        chance = random.Random(36)
        met = {True: 0, False: 0}
        for _ in range(250):
            past, _ = drawn.rich_past(chance, chance.choice((3, 8, 15, 40)))
            for change in (one_report_changed, one_event_fewer, one_event_more):
                other = change(chance, chance.choice((past, shuffled(chance, past), short_past(past))))
                if plain.first_fault(other) is None:
                    met[self.check(past, other)] += 1
        self.assertGreater(min(met.values()), 80, met)

    def test_unlike_falls_alone(self):
        """Rows whose firsts and lasts agree, beside others that count for the same address."""
        chance = random.Random(37)
        met = 0
        for _ in range(400):
            past, _ = drawn.rich_past(chance, chance.choice((8, 20, 50)))
            other = one_report_changed(chance, past)
            if plain.first_fault(other) is None and states(past) != states(other):
                ends = [[(x, p, way, state[:2]) for x, rows in states(one).items() for p, way, state in rows]
                        for one in (past, other)]
                met += ends[0] == ends[1]
                self.assertFalse(self.check(past, other))
        self.assertGreater(met, 80)

    def test_each_difference(self):
        """What parts two pasts, one difference at a time."""
        told, back = ("told", 5, "01", 2, (4, 3)), ("backs", 5, "01", 1)
        heard, acks = ("heard", 5, "01", 2, (4, 5)), ("acks", 5, "01", 1)
        for one, two, same in (
            ((), (), True),
            ((("rise", 5),), (), False),
            ((("rise", 5), ("rise", 6)), (("rise", 6), ("rise", 5)), True),
            ((("rise", 5), ("rise", 6)), (("rise", 5), ("rise", 7)), False),
            ((("rise", 5), ("fall", 5)), (), True),
            # A row on which nothing was told, and one on which only NONE was told.
            ((("rise", 5), ("told", 5, "", 1, None)), (("rise", 5),), False),
            ((("rise", 5), ("heard", 5, "", 1, None)), (("rise", 5),), False),
            ((("rise", 5), ("told", 5, "", 1, None)), (("rise", 5), ("told", 5, "0", 1, None)), False),
            ((("rise", 5), ("told", 5, "", 1, None)), (("rise", 5), ("heard", 5, "", 1, None)), False),
            ((("rise", 5), told), (("rise", 5), told[:3] + (3, (4, 3))), False),
            ((("rise", 5), heard), (("rise", 5), heard[:3] + (3, (4, 5))), False),
            ((("rise", 5), told, back), (("rise", 5), told), False),
            ((("rise", 5), heard, acks), (("rise", 5), heard), False),
            ((("rise", 5), told, back), (("rise", 5), told, ("backs", 5, "01", 2)), False),
            ((("rise", 5), heard, acks), (("rise", 5), heard, ("acks", 5, "01", 2)), False),
            ((("rise", 5), told), (("rise", 5), told[:4] + (None,)), False),
            ((("rise", 5), heard), (("rise", 5), heard[:4] + (None,)), False),
            ((("rise", 5), told), (("rise", 5), told[:4] + ((4, 0, 3),)), False),
            ((("rise", 5), told), (("rise", 5), told[:4] + ((4, 2, 3),)), False),
            ((("rise", 5), heard), (("rise", 5), heard[:4] + ((4, 5, 5),)), False),
            ((("rise", 5), ("told", 5, "01", 1, (2, 3)), told), (("rise", 5), told), False),
            ((("rise", 5), ("told", 5, "01", 1, (2, 3)), told), (("rise", 5), ("told", 5, "01", 1, (3, 3)), told), False),
            ((("rise", 5), ("heard", 5, "01", 1, (2, 5)), heard), (("rise", 5), ("heard", 5, "01", 1, None), heard), False),
            ((("rise", 5), ("heard", 5, "01", 1, (4, 5)), heard), (("rise", 5), ("heard", 5, "01", 1, None), heard), True),
        ):
            self.assertEqual(self.check((3, one), (3, two)), same, (one, two))
            # The same beside a longer and a shorter stretch that count, and another neighbour.
            more = (("rise", 9), ("told", 9, "010", 4, (0, 3)), ("heard", 9, "", 4, (0, 9)))
            if ("fall", 5) not in one and all(row[:1] == (("rise", 5),) for row in (one, two)):
                more += tuple((kind, 5, p, 4, (0, 3 if kind == "told" else 5)) for kind in ("told", "heard") for p in ("010000", "0"))
            self.assertEqual(self.check((3, one + more), (3, two + more)), same, (one, two))

    def test_alike_pasts_let_the_same(self):
        chance = random.Random(38)
        for _ in range(60):
            past, a = drawn.rich_past(chance, 20)
            other = with_old_life(short_past(past))
            for _ in range(25):
                event = one_event_more(chance, past)[1][-1]
                self.assertEqual(plain.may_come(past[0], list(past[1]), event), plain.may_come(past[0], list(other[1]), event))
                if plain.may_come(past[0], list(past[1]), event):
                    past, other = (past[0], past[1] + (event,)), (past[0], other[1] + (event,))
                for m in plain.near(past[1]):
                    self.assertEqual(plain.may(list(past[1]), a, m), plain.may(list(other[1]), a, m))
            self.assertIs(are_alike(one=past, two=other), True)

    def test_unlike_names(self):
        for one, two in (((3, ()), (4, ())), ((3, (("rise", 5),)), (5, (("rise", 3),))), ((0, ()), (31, (("rise", 0),)))):
            for past, other in ((one, two), (two, one)):
                told = raised(Refused(other))
                self.assertEqual(untouched(are_alike, past, other), (told, True))
                self.assertEqual(untouched(parting_of, past, other), (told, True))
                for parting in (None, (), ((), ("event", ("rise", 9)))):
                    self.assertEqual(untouched(parting_serves, past, other, parting), (told, True))
        self.assertEqual(outcome(are_alike, two=(4, ()), one=(3, ())), raised(Refused((4, ()))))
        self.assertEqual(outcome(parting_of, two=(4, ()), one=(3, ())), raised(Refused((4, ()))))


class Partings(unittest.TestCase):

    one = (3, (("rise", 5), ("rise", 6), ("told", 5, "01", 1, (7, 3)), ("told", 5, "01", 2, (4, 3)), ("heard", 5, "", 2, (9, 5))))
    two = (3, (("rise", 5), ("rise", 7), ("heard", 5, "", 2, (9, 5)), ("told", 5, "01", 2, (6, 3))))
    gone = (("heard", 5, "", 3, None), ("acks", 5, "", 3))
    between = gone + (("heard", 5, "01", 1, (5, 5)),)

    def same(self, one, two, parting):
        told = serves(one, two, parting)
        self.assertEqual(untouched(parting_serves, one, two, parting), (returned(told), True), (one, two, parting))
        return told

    def test_what_serves(self):
        for parting in (
            (self.between, ("may", "010000", 5)), (self.between, ("may", "011111", 5)), ((), ("event", ("rise", 6))),
            ((), ("event", ("fall", 6))), ((), ("event", ("fall", 7))), ((), ("event", ("told", 6, "", 1, (3, 3)))),
            ((("rise", 9), ("fall", 9)), ("event", ("heard", 7, "11", 1, None))), ((("backs", 5, "01", 1),), ("event", ("rise", 7))),
        ):
            self.assertTrue(self.same(self.one, self.two, parting), parting)
            self.assertTrue(self.same(self.two, self.one, parting), parting)

    def test_what_does_not(self):
        for parting in (
            (self.gone, ("may", "010000", 5)), (self.between, ("may", "110000", 5)), (self.between, ("may", "010000", 6)),
            (self.between, ("may", "010000", 7)), (self.between, ("may", "010000", 3)), (self.between, ("may", "010000", 9)),
            ((), ("event", ("rise", 5))), ((), ("event", ("rise", 9))), ((), ("event", ("told", 5, "01", 3, None))),
            ((("fall", 6),), ("event", ("rise", 7))), ((("rise", 7),), ("event", ("rise", 6))), ((("rise", 3),), ("event", ("rise", 6))),
            (self.between[1:], ("may", "010000", 5)), (self.between + (None,), ("may", "010000", 5)),
            (list(self.between), ("may", "010000", 5)), (self.between, ["may", "010000", 5]), [self.between, ("may", "010000", 5)],
            (self.between[:2] + (list(self.between[2]),), ("may", "010000", 5)), (self.between, ("may", "010000", True)),
            (self.between, ("may", "01", 5)), (self.between, ("may", "0100000", 5)), (self.between, ("may", 5, "010000")),
            (self.between, ("may", "010000")), (self.between, ("may", "010000", 5, 5)), (self.between, ("may", ["010000"], 5)),
            (self.between, ("may", "010000", (5,))), (self.between, ("let", "010000", 5)), (self.between, ()), (self.between, ("may",)),
            (self.between,), (self.between, ("may", "010000", 5), None), ((), ("event",)), ((), ("event", ("rise", 6), 1)),
            ((), ("rise", 6)), ((), ("event", ["rise", 6])), ((), ("event", None)), ((), ("events", ("rise", 6))), (), ((),),
        ):
            self.assertFalse(self.same(self.one, self.two, parting), parting)
            self.assertFalse(self.same(self.two, self.one, parting), parting)

    def test_true_is_no_name(self):
        one = (0, (("rise", 1), ("heard", 1, "", 1, (5, 1))))
        two = (0, (("rise", 1),))
        self.assertIs(parting_serves(one, two, ((), ("may", "000000", 1))), True)
        self.assertIs(parting_serves(one, two, ((), ("may", "000000", True))), False)
        self.assertIs(parting_serves(one, (0, ()), ((), ("event", ("fall", 1)))), True)
        self.assertIs(parting_serves(one, (0, ()), ((), ("event", ("fall", True)))), False)

    def test_any_value(self):
        serving = (self.between, ("may", "010000", 5)), ((), ("event", ("fall", 6)))
        for value in any_values():
            self.same(self.one, self.two, value)
            for events, asked in serving:
                self.same(self.one, self.two, (value, asked))
                self.same(self.one, self.two, (events, value))
                self.same(self.one, self.two, (events + (value,), asked))
                for at in range(len(asked)):
                    self.same(self.one, self.two, (events, asked[:at] + (value,) + asked[at + 1:]))

    def test_alike_pasts_have_none(self):
        for asked in (("event", ("rise", 6)), ("event", ("rise", 5)), ("event", ("fall", 5)), ("may", "010000", 5), ("event", None)):
            self.assertIs(parting_serves(self.one, self.one, ((), asked)), False)
            self.assertIs(parting_serves(self.one, short_past(self.one), (self.between, asked)), False)

    def test_partings_changed_a_little(self):
        chance = random.Random(39)
        met = {True: 0, False: 0}
        for _ in range(250):
            past, a = drawn.rich_past(chance, chance.choice((5, 15, 30)))
            other = chance.choice((one_report_changed, one_event_fewer, one_event_more))(chance, past)
            if plain.first_fault(other) is not None or states(past) == states(other):
                continue
            events, asked = parting_of(past, other)
            for _ in range(8):
                at = chance.randrange(len(events) + 1)
                x = chance.randrange(32)
                met[self.same(past, other, chance.choice((
                    (events[:at] + events[at + 1:], asked), (events[:at] + events[at:at + 1] + events[at:], asked),
                    (events + (("rise", x),), asked), ((("fall", x),) + events, asked), (events, ("event", ("fall", x))),
                    (events, ("may", a, x)), (events, ("event", chance.choice(events) if events else ("rise", x))),
                    ((), asked), (events[::-1], asked), (events, asked + (1,)),
                    (events, asked[:-1] + (list(asked[-1]) if type(asked[-1]) is tuple else True,)),
                )))] += 1
            self.assertTrue(self.same(other, past, (events, asked)))
        self.assertGreater(min(met.values()), 100, met)


class Shortest(unittest.TestCase):

    def test_by_the_words(self):
        chance = random.Random(40)
        for _ in range(250):
            past, _ = drawn.rich_past(chance, chance.choice((0, 4, 20, 60)))
            made = short(past)
            self.assertEqual(untouched(short_past, past), (returned(made), True))
            self.assertIs(check_past(made), made)
            self.assertEqual(states(made), states(past))
            self.assertIs(are_alike(past, made), True)
            self.assertLessEqual(len(made[1]), len(past[1]))
            self.assertEqual(short_past(past=made), made)

    def test_the_order(self):
        past = (3, (("rise", 7), ("rise", 1), ("told", 7, "1", 1, (2, 3)), ("told", 7, "01", 4, (2, 3)), ("told", 7, "01", 6, (5, 3)),
                    ("heard", 7, "01", 3, None), ("heard", 7, "", 3, (8, 7)), ("backs", 7, "01", 2), ("acks", 7, "", 3),
                    ("rise", 0), ("told", 0, "", 1, (5, 3)), ("fall", 0)))
        self.assertEqual(outcome(short_past, past), returned((3, (
            ("rise", 1), ("rise", 7), ("heard", 7, "", 3, (8, 7)), ("acks", 7, "", 3), ("heard", 7, "01", 3, None),
            ("told", 7, "01", 4, (2, 3)), ("told", 7, "01", 6, (5, 3)), ("backs", 7, "01", 2), ("told", 7, "1", 1, (2, 3))))))

    def test_no_alike_past_has_fewer_events(self):
        """Every past of a small world, against the fewest events of all that leave the same."""
        alphabet = [("rise", 1), ("fall", 1)]
        for kind, teller in (("told", 0), ("heard", 1)):
            alphabet += [(kind, 1, "", serial, number) for serial in (1, 2) for number in (None, (1, teller), (2, teller))]
        alphabet += [(kind, 1, "", k) for kind in ("acks", "backs") for k in (1, 2)]
        pasts, fewest = [()], {}
        for many in range(6):
            for events in pasts:
                fewest.setdefault(repr(states((0, events))), many)
            longer = [events + (event,) for events in pasts for event in alphabet if plain.may_come(0, list(events), event)]
            pasts = longer if many < 4 else random.Random(41).sample(longer, min(3000, len(longer)))
        self.assertGreater(len(fewest), 100)
        for events in pasts:
            made = short_past((0, events))
            told = repr(states((0, events)))
            self.assertEqual(repr(states(made)), told)
            if told in fewest and len(made[1]) <= 4:
                self.assertEqual(len(made[1]), fewest[told])
            self.assertLessEqual(len(made[1]), fewest.get(told, 6))
        self.assertTrue(all(plain.first_fault((0, events)) is None for events in itertools.islice(pasts, 50)))
