"""[39], [41] and [42]."""

import itertools
import random
import unittest

from maypoint.books import book_of, check_past
from maypoint.errors import BadDeed, Refused
from maypoint.forms import check_rule
from maypoint.kinds import kinds_of_m, kinds_of_x
from maypoint.rules import ALL, LAST, RIGHT, judge_rule, rule_lets, rule_net_serves
from maypoint.worlds import World, run_deeds
from tests import chance as drawn
from tests import plain
from tests.support import any_values, has_list, outcome, raised, returned, untouched
from tests.test_judges import changed_ring, changed_run
from tests.test_kinds import book_of_kinds

NOT_RIGHT_X = ("and", ("less", "vx", "lx"), ("not", ("less", "lm", "vx")))


# A plain reading of rules: `row` tells what the terms stand for, `rows` the same for each x.


def holds(part, row, rows):
    word = part[0]
    if word == "less":
        return plain.below(row[part[1]], row[part[2]])
    if word == "is":
        return row[part[1]] is not None
    if word == "not":
        return not holds(part[1], row, rows)
    if word in ("and", "or"):
        told = [holds(part[1], row, rows), holds(part[2], row, rows)]
        return all(told) if word == "and" else any(told)
    told = [holds(part[1], {**row, **x}, rows) for x in rows]
    return all(told) if word == "all" else any(told)


def right(row, rows):
    return row["lm"] is not None and all(plain.below(row["lm"], x["vx"]) for x in rows if plain.below(x["vx"], x["lx"]))


def own(numbers, sign):
    return dict(zip(("v" + sign, "l" + sign, "h" + sign), numbers))


def numbers_with(events, x):
    """v, l and h of a neighbour by the list of all events."""
    v, l = [plain.least_key([event for event in events if len(event) < 3 or event[2] == ""], "000000", x, told, acked)
            for told, acked in (("told", "backs"), ("heard", "acks"))]
    heard = plain.of_kind(events, x, "heard", "")
    return (v and v[1:], l and l[1:], heard[-1][4] if heard else None)


def lets(rule, past, m):
    """What a rule says of a past and a neighbour; RIGHT by the words of [39]."""
    events = list(past[1])
    row = own(numbers_with(events, m), "m")
    rows = [own(numbers_with(events, x), "x") for x in plain.near(events)]
    return right(row, rows) if rule is None else holds(rule, row, rows)


def lets_kinds(rule, kind, beside):
    row = own(kind, "m")
    rows = [own(kind, "x")] + [own(x[3:], "x") for x in beside]
    # The ranks beside another x are others, so m's own row goes with each x.
    rows = [{**own(x[:3], "m"), **x_row} for x, x_row in zip([kind + kind] + list(beside), rows)]
    return right_kinds(row, rows) if rule is None else holds(rule, row, rows)


def right_kinds(row, rows):
    return row["lm"] is not None and all(plain.below(x["lm"], x["vx"]) for x in rows if plain.below(x["vx"], x["lx"]))


def bodies_of(part):
    if part[0] in ("all", "some"):
        return [part[1]]
    return [body for below in part[1:] if type(below) is tuple for body in bodies_of(below)]


def word_of(rule):
    """The word of [41] by all sets of kinds: what a rule lets hangs on which marks of bodies stand beside m."""
    more = less = False
    bodies = bodies_of(rule) + [NOT_RIGHT_X]
    for kind in kinds_of_m():
        marks = {}
        for x in kinds_of_x(kind):
            row = {**own(x[:3], "m"), **own(x[3:], "x")}
            marks[tuple(holds(body, row, ()) for body in bodies)] = x
        # Every set of kinds agrees with one of these: take all that lack some of the marks' entries.
        for lacking in itertools.product((None, True, False), repeat=len(bodies)):
            beside = [x for mark, x in marks.items()
                      if not any(lack is not None and mark[at] == lack for at, lack in enumerate(lacking))]
            told = lets_kinds(rule, kind, beside), lets_kinds(None, kind, beside)
            more, less = more or told == (True, False), less or told == (False, True)
    return {(False, False): "same", (False, True): "less", (True, False): "more", (True, True): "mixed"}[more, less]


def both(one, other):
    return ("and", one, other)


def either(one, other):
    return ("or", one, other)


# RIGHT in other words.
SAME = (
    RIGHT, ("not", ("not", RIGHT)), both(RIGHT, RIGHT), either(RIGHT, RIGHT),
    both(("is", "lm"), ("not", ("some", NOT_RIGHT_X))),
    ("not", either(("not", ("is", "lm")), ("some", NOT_RIGHT_X))),
    both(("is", "lm"), ("all", either(either(("less", "lx", "vx"), ("not", ("is", "vx"))), ("less", "lm", "vx")))),
    either(RIGHT, both(("is", "vm"), ("not", ("is", "vm")))), either(RIGHT, ("less", "hm", "lm")),
    both(RIGHT, ("not", ("less", "hm", "lm"))), either(RIGHT, ("some", ("less", "hx", "lx"))), both(RIGHT, ("all", ("not", ("less", "hx", "lx")))),
    both(RIGHT, ("not", ("less", "vm", "lm"))), either(RIGHT, both(ALL, ALL)), either(RIGHT, both(ALL, LAST)),
    both(RIGHT, ("some", ("not", ("less", "vx", "lm")))),
)
LESS = (
    ALL, LAST, both(RIGHT, ALL), both(RIGHT, LAST), both(RIGHT, ("is", "hm")), both(RIGHT, ("is", "vm")), ("less", "vm", "vm"),
    both(RIGHT, ("all", ("is", "vx"))), both(RIGHT, ("not", ("some", ("less", "hm", "hx")))), both(ALL, LAST), either(ALL, LAST),
    # By the last reports alone, as nodes of the policy take their targets.
    both(("is", "hm"), ("all", either(("not", ("less", "vx", "hx")), ("less", "hm", "vx")))),
    # One x is m itself.
    ("all", ("less", "lm", "lx")),
    both(RIGHT, ("not", both(both(("some", ("less", "vx", "lm")), ("some", ("less", "hx", "lm"))), ("some", ("less", "lm", "lx"))))),
)
MORE = (
    ("is", "lm"), ("not", ("less", "vm", "vm")), either(RIGHT, ("is", "vm")), either(RIGHT, ("not", ("is", "vm"))),
    either(RIGHT, ("not", ("is", "lm"))), either(RIGHT, ("some", ("less", "vx", "hx"))), either(RIGHT, ("less", "hm", "vm")),
    # Wherever RIGHT lets m, m's own v is NONE or above.
    ("some", ("less", "lm", "vx")),
    # Two unlike neighbours beside m, and three.
    either(RIGHT, both(("some", both(("less", "vx", "lm"), ("is", "hx"))), ("some", both(("less", "vx", "lm"), ("not", ("is", "lx")))))),
    either(RIGHT, both(("some", both(("less", "vx", "lm"), ("less", "hx", "vx"))),
                       both(("some", both(("less", "lm", "vx"), ("less", "vx", "hm"))), ("some", ("less", "hm", "vx"))))),
    # Only where nobody is up and m told nothing; alone, and only beside some others.
    either(RIGHT, both(("not", ("is", "lm")), ("not", ("some", ("less", "vx", "lx"))))),
    either(RIGHT, both(both(("not", ("is", "lm")), ("not", ("some", ("less", "vx", "lx")))), ("some", ("less", "lx", "vx")))),
    either(RIGHT, both(both(("not", ("is", "lm")), ("not", ("some", ("less", "vx", "lx")))),
                       both(("some", both(("is", "lx"), ("not", ("is", "vx")))), ("some", ("less", "lx", "vx"))))),
    either(RIGHT, both(("not", ("is", "lm")), ("not", ("is", "vm")))),
    # Only where somebody is up by less than m's least.
    either(RIGHT, both(("less", "hm", "vm"), ("some", both(("less", "vx", "lm"), ("less", "lm", "lx"))))),
)
MIXED = (
    ("less", "hm", "vm"), ("not", RIGHT), ("not", ALL), ("is", "hm"), ("is", "vm"), ("not", ("is", "lm")), ("some", ("less", "vx", "lm")),
    both(("is", "lm"), ("some", ("is", "vx"))), either(ALL, ("not", ("is", "lm"))),
)


class Lets(unittest.TestCase):

    def chance_books(self, seed, many, longest=40, plain_only=False):
        """Pasts by chance that tell of the stretch without signs, and perhaps of others, each with a neighbour."""
        chance = random.Random(seed)
        while many:
            past, _ = drawn.rich_past(chance, chance.randrange(2, longest))
            if plain_only or chance.random() < 0.7:
                events = [event[:2] + ("",) + event[3:] if len(event) > 2 else event for event in past[1]]
                past = (past[0], ())
                for event in events:
                    if plain.may_come(past[0], list(past[1]), event):
                        past = (past[0], past[1] + (event,))
            for m in plain.near(past[1]):
                if many:
                    many -= 1
                    yield chance, past, m

    def test_rules_are_rules(self):
        for rule in (RIGHT, ALL, LAST) + SAME + LESS + MORE + MIXED:
            self.assertIs(check_rule(rule), rule)

    def test_right_all_last(self):
        met = {}
        for chance, past, m in self.chance_books(39, 700):
            book, events = book_of(past), list(past[1])
            row = own(numbers_with(events, m), "m")
            rows = [own(numbers_with(events, x), "x") for x in plain.near(events)]
            for at, (rule, told) in enumerate((
                (RIGHT, right(row, rows)), (ALL, all(plain.below(row["lm"], x["vx"]) for x in rows)),
                (LAST, all(plain.below(row["hm"], x["vx"]) for x in rows)),
            )):
                self.assertEqual(outcome(rule_lets, rule, book, m), returned(told), (past, m))
                met[at, told] = met.get((at, told), 0) + 1
        self.assertEqual(len(met), 6)
        self.assertGreater(min(met.values()), 20, met)

    def test_right_is_may_where_all_reports_are_for_all(self):
        for chance, past, m in self.chance_books(40, 400, plain_only=True):
            book = book_of(past)
            for a in plain.ADDRESSES:
                self.assertIs(rule_lets(RIGHT, book, m), book.may(a, m))
                self.assertIs(rule_lets(RIGHT, book, m), plain.may(list(past[1]), a, m))

    def test_against_a_plain_reading(self):
        met = {True: 0, False: 0}
        for chance, past, m in self.chance_books(41, 700):
            for _ in range(4):
                rule = drawn.rule(chance, chance.choice((1, 2, 4, 8, 20, 60)), chance.randrange(5))
                told = lets(rule, past, m)
                self.assertEqual(outcome(rule_lets, rule, book_of(past), m), returned(told), (rule, past, m))
                met[told] += 1
        self.assertGreater(min(met.values()), 800, met)

    def test_each_part(self):
        past = (0, (
            ("rise", 1), ("told", 1, "", 1, (5, 0)), ("heard", 1, "", 1, (3, 1)), ("heard", 1, "", 2, (9, 1)), ("rise", 2),
            ("told", 2, "", 1, (4, 0)), ("heard", 2, "", 1, (8, 2)), ("heard", 2, "", 2, None), ("rise", 3), ("heard", 3, "0", 1, (1, 3))))
        book = book_of(past)
        for rule, told in (
            (("is", "vm"), (True, True, False)), (("is", "lm"), (True, True, False)), (("is", "hm"), (True, False, False)),
            (("less", "vm", "lm"), (False, True, False)), (("less", "lm", "vm"), (True, False, False)), (("less", "lm", "hm"), (True, True, False)),
            (("less", "hm", "lm"), (False, False, False)), (("less", "vm", "hm"), (True, True, False)), (("less", "vm", "vm"), (False,) * 3),
            (("all", ("is", "vx")), (False,) * 3), (("some", ("is", "vx")), (True,) * 3), (("some", ("is", "hx")), (True,) * 3),
            (("all", ("less", "lm", "vx")), (True, False, False)), (("some", ("less", "lm", "vx")), (True, True, False)),
            (("some", ("less", "vx", "vm")), (True, False, True)), (("all", ("not", ("less", "vx", "vm"))), (False, True, False)),
            (("some", both(("less", "vx", "lx"), ("less", "vx", "lm"))), (False, True, True)),
            (("not", ("is", "hm")), (False, True, True)), (either(("is", "hm"), ("is", "lm")), (True, True, False)),
            (both(("is", "hm"), ("is", "lm")), (True, False, False)), (RIGHT, (True, False, False)), (LAST, (False, False, False)),
        ):
            self.assertEqual(tuple(lets(rule, past, m) for m in (1, 2, 3)), told, rule)
            self.assertEqual(tuple(rule_lets(rule=rule, book=book, m=m) for m in (1, 2, 3)), told, rule)

    def test_no_neighbour(self):
        book = book_of((4, (("rise", 1), ("rise", 9), ("told", 9, "", 1, (3, 4)), ("fall", 9), ("rise", 0))))
        for m in range(32):
            for rule in (RIGHT, ("not", ("is", "vm")), ALL):
                self.assertEqual(outcome(rule_lets, rule, book, m) == raised(Refused(m)), m not in (0, 1))

    def test_what_came_later(self):
        book = book_of((0, (("rise", 1), ("told", 1, "", 1, (5, 0)), ("heard", 1, "", 1, (3, 1)))))
        early = book.copied()
        book.add_event(("heard", 1, "", 2, None))
        book.add_event(("acks", 1, "", 2))
        self.assertEqual([rule_lets(rule, early, 1) for rule in (RIGHT, ALL, LAST)], [True, True, True])
        self.assertEqual([rule_lets(rule, book, 1) for rule in (RIGHT, ALL, LAST)], [False, False, False])

    def test_kinds_are_all_that_counts(self):
        """Books of the same kinds, with repeats, other names and other numbers."""
        chance = random.Random(42)
        for _ in range(150):
            kind = chance.choice(kinds_of_m())
            unlike = chance.sample(kinds_of_x(kind), chance.randrange(5))
            rule = drawn.rule(chance, chance.choice((3, 8, 20, 60)), 4)
            told = []
            for _ in range(3):
                rows = unlike + chance.choices(unlike, k=chance.randrange(6)) if unlike else []
                chance.shuffle(rows)
                i, *names = chance.sample(range(32), len(rows) + 2)
                book = book_of(book_of_kinds(chance, kind, rows, i, names))
                told.append(rule_lets(rule, book, names[0]))
                self.assertIs(rule_lets(RIGHT, book, names[0]), lets_kinds(None, kind, unlike))
            self.assertEqual(told, [lets_kinds(rule, kind, unlike)] * 3)


def serves(rule, past, m, run, ring):
    """[42], condition by condition."""
    if type(ring) is not tuple or not 1 < len(ring) < 9 or not all(plain.is_name(name) for name in ring):
        return False
    if len(set(ring)) < len(ring) or ring[0] != past[0] or ring[1] != m:
        return False
    try:
        world = run_deeds(run)
    except BadDeed:
        return False
    if repr(world.view(past[0])) != repr(past):
        return False
    for one, other in zip(ring, ring[1:] + ring[:1]):
        view = world.view(one)
        if other not in plain.near(view[1]) or not lets(rule, view, other):
            return False
    return True


class Judging(unittest.TestCase):

    def check_past(self, past, m):
        self.assertIs(check_past(past), past)
        self.assertIn(m, plain.near(past[1]))
        self.assertLessEqual(max(len(plain.near(past[1][:at])) for at in range(len(past[1]) + 1)), 7)
        self.assertLessEqual(len(past[1]), 60)

    def check(self, rule):
        """The answer by itself: each past, m, run and ring; and the word."""
        call, same = untouched(judge_rule, rule)
        self.assertTrue(same)
        answer = judge_rule(rule)
        self.assertEqual(call, returned(answer))
        self.assertFalse(has_list(answer))
        word = answer[0]
        self.assertEqual(len(answer), {"same": 1, "less": 3, "more": 5, "mixed": 5}[word])
        if word in ("less", "mixed"):
            self.check_past(answer[1], answer[2])
            self.assertEqual((lets(None, answer[1], answer[2]), lets(rule, answer[1], answer[2])), (True, False))
        if word in ("more", "mixed"):
            past, m = answer[1:3] if word == "more" else answer[3:5]
            self.check_past(past, m)
            self.assertEqual((lets(None, past, m), lets(rule, past, m)), (False, True))
        if word == "more":
            self.assertLessEqual(len(answer[3]), 200)
            self.assertTrue(serves(rule, *answer[1:]), (rule, answer))
            self.assertIs(rule_net_serves(rule, *answer[1:]), True)
            self.assertIs(rule_net_serves(RIGHT, *answer[1:]), False)
        return word

    def test_told_words(self):
        for word, rules in (("same", SAME), ("less", LESS), ("more", MORE), ("mixed", MIXED)):
            for rule in rules:
                self.assertEqual(self.check(rule), word, rule)
                self.assertEqual(word_of(rule), word, rule)
                self.assertEqual(self.check(("not", ("not", rule))), word, rule)

    def test_named(self):
        self.assertEqual(outcome(judge_rule, rule=RIGHT), returned(("same",)))

    def joined(self, chance, many):
        """RIGHT in other words joined with parts, by and, or and both."""
        base = chance.choice([rule for rule in SAME if len(bodies_of(rule)) < 2])
        room = 4 - len(bodies_of(base))
        one, other = drawn.rule(chance, many, chance.randrange(room)), drawn.rule(chance, chance.randrange(1, 4), 0)
        return chance.choice((both(base, one), either(base, one), either(both(base, other), both(base, one) if room > 3 else one),
                              both(either(base, one), other), either(both(base, one), other), both(one, base), either(one, base)))

    def test_joined_rules(self):
        chance = random.Random(41)
        met = {}
        while sum(met.values()) < 160:
            rule = self.joined(chance, chance.choice((1, 2, 3, 5, 9, 30)))
            if len(bodies_of(rule)) < 5:
                check_rule(rule)
                word = self.check(rule)
                met[word] = met.get(word, 0) + 1
                self.assertEqual(word, word_of(rule), rule)
        self.assertGreater(min(met.values()), 12, met)
        self.assertEqual(len(met), 4)

    def test_chance_rules(self):
        chance = random.Random(42)
        for _ in range(100):
            rule = drawn.rule(chance, chance.choice((1, 4, 10, 25, 40, 60)), chance.randrange(5))
            self.assertEqual(self.check(rule), word_of(rule), rule)

    def test_great_rules(self):
        """Four bodies and sixty parts, which still say the same as RIGHT but for one set of kinds."""
        some = [("some", both(("less", "vx", "lm"), both(("is", term), ("not", ("is", other)))))
                for term, other in (("hx", "vx"), ("lx", "hx"), ("vx", "lx"))]
        rule = both(RIGHT, ("not", both(some[0], both(some[1], some[2]))))
        self.assertEqual((self.check(rule), word_of(rule)), (word_of(rule), self.check(rule)))
        chance = random.Random(43)
        for _ in range(30):
            one = drawn.rule(chance, 44, 2)
            rule = chance.choice((both, either))(chance.choice((both, either))(RIGHT, ("is", "vm")), one)
            check_rule(rule)
            self.assertEqual(self.check(rule), word_of(rule))

    def test_words_hold_for_sets_of_kinds_by_chance(self):
        chance = random.Random(44)
        for word, rules in (("same", SAME), ("less", LESS), ("more", MORE)):
            for rule in rules:
                for _ in range(60):
                    kind = chance.choice(kinds_of_m())
                    beside = chance.sample(kinds_of_x(kind), min(len(kinds_of_x(kind)), chance.randrange(5)))
                    told = lets_kinds(rule, kind, beside), lets_kinds(None, kind, beside)
                    self.assertNotIn(told, {"same": ((True, False), (False, True)), "less": ((True, False),),
                                            "more": ((False, True),)}[word])


class Nets(unittest.TestCase):

    run_of_two = (("rise", 0, 1), ("tell", 0, 1, "", 1, (5, 0)), ("come", 0, 1, ""), ("tell", 1, 0, "", 1, (5, 1)), ("come", 1, 0, ""))
    past_of_two = (0, (("rise", 1), ("told", 1, "", 1, (5, 0)), ("heard", 1, "", 1, (5, 1))))

    def same(self, rule, past, m, run, ring):
        told = serves(rule, past, m, run, ring)
        self.assertEqual(untouched(rule_net_serves, rule, past, m, run, ring), (returned(told), True), (rule, past, m, run, ring))
        return told

    def test_two(self):
        for rule, told in ((("is", "lm"), True), (("less", "lm", "vm"), False), (("less", "vm", "lm"), False), (RIGHT, False),
                           (("not", ("is", "lm")), False), (("not", RIGHT), False), (either(("less", "vm", "lm"), RIGHT), True)):
            self.assertEqual(self.same(rule, self.past_of_two, 1, self.run_of_two, (0, 1)), told, rule)
        self.assertIs(rule_net_serves(rule=("is", "lm"), past=self.past_of_two, m=1, run=self.run_of_two, ring=(0, 1)), True)

    def test_told_nets_changed(self):
        chance = random.Random(45)
        met = {True: 0, False: 0}
        for rule in MORE:
            _, past, m, run, ring = judge_rule(rule)
            self.assertTrue(self.same(rule, past, m, run, ring))
            for _ in range(20):
                met[self.same(rule, past, m, changed_run(chance, run, past[0]), ring)] += 1
                met[self.same(rule, past, m, run, changed_ring(chance, ring))] += 1
            for other in MORE + SAME + LESS[:3] + MIXED:
                met[self.same(other, past, m, run, ring)] += 1
            for name in range(32):
                self.assertEqual(self.same(rule, past, name, run, ring), name == m)
            self.same(rule, (past[0], past[1][:-1]), m, run, ring)
            self.same(rule, (m, past[1]), past[0], run, ring)
        self.assertGreater(min(met.values()), 80, met)

    def test_any_value(self):
        for value in any_values():
            self.assertEqual(untouched(rule_net_serves, ("is", "lm"), self.past_of_two, 1, value, (0, 1)), (returned(False), True))
            self.assertEqual(untouched(rule_net_serves, ("is", "lm"), self.past_of_two, 1, self.run_of_two, value),
                             (returned(value == (0, 1) and repr(value) == "(0, 1)"), True))
            for at in range(5):
                run = self.run_of_two[:at] + (value,) + self.run_of_two[at + 1:]
                self.assertIs(rule_net_serves(("is", "lm"), self.past_of_two, 1, run, (0, 1)), False)

    def test_lists_and_true(self):
        rule, past, run = ("is", "lm"), self.past_of_two, self.run_of_two
        for ring in ([0, 1], (0, True), (False, 1), ((0, 1),), (0, 1, 0), (0, 1, 0, 1), (0, 1) * 4, (0,), ()):
            self.assertIs(rule_net_serves(rule, past, 1, run, ring), False)
        for wrong in (list(run), run[:-1] + (list(run[-1]),), run[:1] + (("tell", 0, True, "", 1, (5, 0)),) + run[2:],
                      run[:1] + (("tell", 0, 1, "", True, (5, 0)),) + run[2:], (run,)):
            self.assertIs(rule_net_serves(rule, past, 1, wrong, (0, 1)), False)

    def test_rings_of_two_to_nine(self):
        """All nodes of a ring have told each other one number; whoever asks only for a number lets it go round."""
        for many in range(2, 11):
            pairs = [(i, (i + 1) % many) for i in range(many)][:many if many > 2 else 1]
            run = tuple(("rise",) + pair for pair in pairs)
            for i, j in pairs:
                for one, other in ((i, j), (j, i)):
                    run += (("tell", one, other, "", 1, (5, one)), ("come", one, other, ""))
            past = run_deeds(run).view(0)
            self.assertEqual(self.same(("is", "lm"), past, 1, run, tuple(range(many))), many < 9)
            self.assertEqual(self.same(("not", ("is", "lm")), past, 1, run, tuple(range(many))), False)
            if many > 2:
                backwards = (0,) + tuple(range(many - 1, 0, -1))
                self.assertEqual(self.same(("is", "lm"), past, many - 1, run, backwards), many < 9)
                self.assertIs(self.same(("is", "lm"), past, 1, run, backwards), False)
                # Two neighbours close a ring by themselves.
                self.assertIs(self.same(("is", "lm"), past, 1, run, tuple(range(many - 1))), many == 3)

    def test_the_first_node_too(self):
        """In a told net of [31] the first handing is not let by RIGHT, and that is one of the ring's."""
        run = (("rise", 0, 1), ("tell", 0, 1, "", 1, (5, 0)), ("come", 0, 1, ""))
        past = (0, (("rise", 1), ("told", 1, "", 1, (5, 0))))
        self.assertTrue(rule_lets(RIGHT, run_deeds(run).book(1), 0))
        self.assertIs(self.same(RIGHT, past, 1, run, (0, 1)), False)
        self.assertIs(self.same(either(RIGHT, ("is", "vm")), past, 1, run, (0, 1)), True)

    def test_rules_that_are_same_or_less_close_no_ring(self):
        chance = random.Random(46)
        names, most = (0, 3, 9, 30, 31), 0
        for _ in range(30):
            world, serials = World(), drawn.Serials(chance)
            rules = {name: chance.choice(SAME + SAME + LESS) for name in names}
            for pair in itertools.combinations(names, 2):
                world.do(("rise",) + pair)
            for _ in range(150):
                deed = drawn.deed(chance, serials, names, world.under_way(), ("", "", "", "01"))
                if deed[0] == "fall" or outcome(world.do, deed) != returned(None):
                    continue
                seer = deed[2] if deed[0] == "come" else deed[1]
                pairs = {(i, m) for i in names for m in world.book(i).near() if rule_lets(rules[i], world.book(i), m)}
                most = max(most, len(pairs))
                self.assertFalse(self.leads_back(pairs, seer), deed)
        self.assertGreater(most, 4)

    def leads_back(self, pairs, start):
        reached, more = set(), {start}
        while more:
            more = {other for one, other in pairs if one in more} - reached
            reached |= more
        return start in reached
