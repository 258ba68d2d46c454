"""[38]."""

import random
import unittest

from maypoint.errors import BadRule
from maypoint.forms import check_rule
from tests import chance as drawn
from tests.support import any_values, nested, outcome, raised, untouched

PARTS_BELOW = {"less": 0, "is": 0, "not": 1, "and": 2, "or": 2, "all": 1, "some": 1}
ITEMS = {"less": 3, "is": 2, "not": 2, "and": 3, "or": 3, "all": 2, "some": 2}


def well_made(part):
    """Whether a part's tuple, first item and number of items are as told."""
    return type(part) is tuple and len(part) > 0 and type(part[0]) is str and len(part) == ITEMS.get(part[0])


def written(part, within=False):
    """All parts in the order in which they are written, each with whether it stands in a body."""
    rows = [(part, within)]
    if well_made(part):
        for below in part[1:1 + PARTS_BELOW[part[0]]]:
            rows += written(below, within or part[0] in ("all", "some"))
    return rows


def first_fault(value):
    """[38], fault by fault; None for a rule."""
    bodies = 0
    for number, (part, within) in enumerate(written(value)):
        if number == 60 or not well_made(part):
            return number
        terms = ("vm", "lm", "hm") + (("vx", "lx", "hx") if within else ())
        if PARTS_BELOW[part[0]] == 0 and not all(type(term) is str and term in terms for term in part[1:]):
            return number
        if part[0] in ("all", "some"):
            bodies += 1
            if within or bodies == 5:
                return number
    return None


def replaced(part, number, made):
    """The rule with the part of this number made anew."""
    at = [0]

    def walk(part):
        at[0] += 1
        if at[0] - 1 == number:
            return made(part)
        if not well_made(part) or part[0] in ("less", "is"):
            return part
        return part[:1] + tuple(walk(below) for below in part[1:])

    return walk(part)


def chain(many, end=("is", "vm")):
    """A rule of so many parts, each but the last one within the one ahead of it."""
    for _ in range(many - 1):
        end = ("not", end)
    return end


class Forms(unittest.TestCase):

    def check(self, value):
        at = first_fault(value)
        told, same = untouched(check_rule, value)
        self.assertTrue(same)
        if at is None:
            self.assertIs(check_rule(value), value)
        else:
            self.assertEqual(told, raised(BadRule(at)), value)
        return at

    def test_rules(self):
        for rule in (("is", "vm"), ("is", "hm"), ("less", "lm", "lm"), ("not", ("is", "lm")), ("all", ("is", "vx")),
                     ("some", ("less", "hx", "vm")), ("and", ("all", ("is", "lx")), ("some", ("less", "vm", "lx"))),
                     ("all", ("and", ("not", ("is", "hx")), ("or", ("is", "vm"), ("less", "lx", "hm"))))):
            self.assertIsNone(self.check(rule))
        self.assertIs(check_rule(value=("is", "vm")), check_rule(value=check_rule(("is", "vm"))))

    def test_each_fault(self):
        good = ("is", "vm")
        for value, at in (
            ((), 0), (None, 0), ("is", 0), (["is", "vm"], 0), (("are", "vm"), 0), ((None, "vm"), 0), ((["is"], "vm"), 0), ((("is",), "vm"), 0),
            (("is",), 0), (("is", "vm", "vm"), 0), (("less", "vm"), 0), (("less", "vm", "lm", "hm"), 0), (("not",), 0),
            (("not", good, good), 0), (("and", good), 0), (("and", good, good, good), 0), (("or", good), 0), (("or", good, good, good), 0),
            (("all",), 0), (("all", good, good), 0), (("some",), 0), (("some", good, good), 0),
            (("is", "vx"), 0), (("is", "lx"), 0), (("is", "hx"), 0), (("less", "vm", "vx"), 0), (("less", "lx", "vm"), 0), (("is", "vy"), 0),
            (("is", ""), 0), (("is", 0), 0), (("is", None), 0), (("is", ["vm"]), 0), (("is", good), 0), (("less", "vm", good), 0),
            (("not", "vm"), 1), (("not", None), 1), (("not", []), 1), (("not", list(good)), 1), (("and", good, ("is", "lx")), 2),
            (("and", ("is", "lx"), good), 1), (("and", ("not", good), ("is", "lx")), 3), (("or", ("and", good, good), ("is", 1)), 4),
            (("all", ("all", good)), 1), (("all", ("some", good)), 1), (("some", ("not", ("all", good))), 2), (("some", ("some", good)), 1),
            (("and", ("all", ("is", "vx")), ("is", "vx")), 3), (("and", ("is", "vx"), ("all", ("is", "vx"))), 1),
            (("or", ("all", ("and", good, ("all", good))), ("all", 1)), 4), ((True, "vm"), 0), (("is", True), 0), (("IS", "vm"), 0),
        ):
            self.assertEqual(self.check(value), at, value)

    def test_bodies(self):
        body = ("all", ("is", "vx"))
        four = ("and", ("and", body, ("some", ("is", "lx"))), ("or", body, body))
        self.assertIsNone(self.check(body))
        self.assertIsNone(self.check(four))
        self.assertEqual(self.check(("and", four, body)), 12)
        self.assertEqual(self.check(("and", four, ("some", ("is", "vx")))), 12)
        self.assertEqual(self.check(("and", ("some", ("is", "vx")), four)), 12)
        self.assertEqual(self.check(("and", ("not", body), ("and", four, ("is", "vx")))), 14)
        self.assertEqual(self.check(("and", four, ("and", body, None))), 13)

    def test_sizes(self):
        for many in range(1, 61):
            self.assertIsNone(self.check(chain(many)))
            self.assertIsNone(self.check(("all", chain(many - 1, ("is", "vx"))) if many > 1 else ("is", "vm")))
        for many in range(61, 99):
            self.assertEqual(self.check(chain(many)), 60)
        self.assertEqual(self.check(chain(60, ("is", "vx"))), 59)
        self.assertEqual(self.check(chain(61, ("is", "vx"))), 60)
        self.assertEqual(self.check(chain(61, None)), 60)
        self.assertEqual(self.check(chain(60, None)), 59)
        self.assertIsNone(self.check(("and", chain(29), chain(30))))
        self.assertEqual(self.check(("and", chain(30), chain(30))), 60)
        self.assertEqual(self.check(("and", chain(58), ("all", ("is", "vx")))), 60)
        self.assertEqual(self.check(("and", chain(58), ("all",))), 59)
        self.assertEqual(self.check(("and", chain(59), ("all",))), 60)

    def test_chance_rules(self):
        chance = random.Random(38)
        for _ in range(1500):
            many = chance.choice((1, 2, 3, 5, 8, 20, 40, 59, 60, 61, 62, 75))
            rule = drawn.rule(chance, many, chance.randrange(7))
            self.assertEqual(len(written(rule)), many)
            at = self.check(rule)
            if at is None:
                self.assertLessEqual(many, 60)

    def test_chance_faults(self):
        chance = random.Random(39)
        changes = (
            list, lambda part: part[:-1], lambda part: part + part[-1:], lambda part: (None,) + part[1:], lambda part: ("not", part),
            lambda part: ([part[0]],) + part[1:], lambda part: (part[0] + " ",) + part[1:], lambda part: part[:1] + (part[1:],),
            lambda part: ("all", part), lambda part: ("some", part), lambda part: ("is", "hx"), lambda part: ("less", "vx", "vm"),
            lambda part: part[0], lambda part: None, lambda part: (), lambda part: chain(40), lambda part: part[:1] + ("vm",) * (len(part) - 1),
            lambda part: ("and", part, part), lambda part: ("is", chance.choice(any_values())), lambda part: chance.choice(any_values()),
        )
        met = {}
        for _ in range(4000):
            rule = drawn.rule(chance, chance.choice((1, 3, 6, 12, 25, 50, 58)), chance.randrange(5))
            for number in sorted(chance.sample(range(60), chance.choice((1, 1, 3, 6))), reverse=True):
                if number < len(written(rule)):
                    rule = replaced(rule, number, chance.choice(changes))
            at = self.check(rule)
            met[at] = True
            twice = ("or", rule, drawn.rule(chance, 3, 0))
            self.check(twice)
            self.check(("and", twice, ("is", "vx")))
        self.assertGreater(len(met), 30)

    def test_any_value(self):
        for value in any_values():
            for made in (value, (value,), ("is", value), ("less", "vm", value), ("less", value, "vm"), ("not", value), ("all", value),
                         ("and", value, value), ("or", ("is", "vm"), value), (value, "vm"), (value, ("is", "vm")), ("all", ("not", value))):
                self.check(made)
        for deep in (nested(100, list), nested(100, tuple), chain(100), ("all", chain(99))):
            self.check(deep)
