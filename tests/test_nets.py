"""[31], [32] and [34]."""

import random
import unittest

from maypoint.books import check_past
from maypoint.errors import Refused
from maypoint.judges import net_serves
from maypoint.nets import question
from maypoint.rings import handings
from maypoint.worlds import run_deeds
from tests import chance as drawn
from tests import plain
from tests.support import has_list, outcome, raised, returned, untouched
from tests.test_rings import chance_worlds

A = "010110"


def past_of(*events, links=(1, 2, 3)):
    """A past of node 0 to which these links stand."""
    return (0, tuple(("rise", x) for x in links) + events)


def told(x, serial, number, p=""):
    return ("told", x, p, serial, number and number + (0,))


def heard(x, serial, number, p=""):
    return ("heard", x, p, serial, number and number + (x,))


# A past, the neighbour that is asked of, and what `question` tells: a ring, or its word.
CASES = (
    (past_of(), 1, "idle"),
    (past_of(heard(1, 1, None)), 1, "idle"),
    (past_of(told(1, 1, None), heard(2, 1, (3,))), 1, "idle"),
    (past_of(heard(1, 1, (3,))), 1, "let"),
    (past_of(heard(1, 1, (3,)), told(2, 1, (4,))), 1, "let"),
    (past_of(heard(1, 1, (3,)), told(1, 1, (4,))), 1, "let"),
    # m itself is up: it heard nothing, or less than it told, or what it told counts no more.
    (past_of(told(1, 1, (4,))), 1, (0, 1)),
    (past_of(told(1, 1, (4,)), heard(1, 1, (9,))), 1, (0, 1)),
    (past_of(told(1, 1, (4,)), heard(1, 1, None)), 1, (0, 1)),
    (past_of(told(1, 1, (4,)), heard(1, 1, (3,)), heard(1, 2, (9,)), ("acks", 1, "", 2)), 1, (0, 1)),
    (past_of(told(1, 1, (4,)), told(2, 1, (1,)), heard(1, 1, (9,))), 1, (0, 1)),
    # Another one is up: m told nothing, NONE, a number above, one for a shorter stretch.
    (past_of(told(2, 1, (4,))), 1, (0, 1, 2)),
    (past_of(told(2, 1, (4,)), heard(1, 1, None)), 1, (0, 1, 2)),
    (past_of(told(2, 1, (4,)), heard(1, 1, (5,))), 1, (0, 1, 2)),
    (past_of(told(2, 1, (4,)), heard(1, 1, (4,))), 1, (0, 1, 2)),
    (past_of(told(2, 1, (4,)), heard(1, 1, (4, 0))), 1, (0, 1, 2)),
    (past_of(told(2, 1, (9,), "01"), heard(1, 1, (0,))), 1, (0, 1, 2)),
    (past_of(told(2, 1, (9,), "01"), heard(1, 1, (0,)), heard(1, 1, (9,), "01")), 1, (0, 1, 2)),
    (past_of(told(2, 1, (9,), A), heard(1, 1, (0,), "01011")), 1, (0, 1, 2)),
    # The least report behind others, ahead of others, told again, acknowledged in part.
    (past_of(told(2, 1, (9,)), told(2, 2, (4,)), told(2, 3, (8,)), told(2, 4, None)), 1, (0, 1, 2)),
    (past_of(told(2, 2, (4,)), told(2, 5, (4,)), told(2, 9, (4,)), told(2, 11, (7,)), heard(1, 3, (5,))), 1, (0, 1, 2)),
    (past_of(told(2, 2, (4,)), told(2, 5, (4,)), ("backs", 2, "", 2), told(2, 9, (4,))), 1, (0, 1, 2)),
    (past_of(told(2, 2, (1,)), told(2, 5, (4,)), ("backs", 2, "", 3), told(2, 9, (6,))), 1, (0, 1, 2)),
    (past_of(told(2, 2, (1,)), told(2, 5, (6,)), told(2, 7, (4,)), ("backs", 2, "", 4), ("backs", 2, "", 5)), 1, (0, 1, 2)),
    (past_of(told(2, 2, (1,)), told(2, 5, (6,)), told(2, 7, (4,)), ("backs", 2, "", 7)), 1, (0, 1, 2)),
    # Much told on other stretches, little heard.
    (past_of(told(2, 1, None, A), told(2, 1, (4,)), told(2, 1, (1,), "1"), told(1, 1, (2,), "00")), 1, (0, 1, 2)),
    (past_of(told(2, 1, (1,), "010"), told(2, 3, None, "010"), ("backs", 2, "010", 2), told(2, 8, (4,))), 1, (0, 1, 2)),
    (past_of(heard(2, 1, (9,)), heard(2, 2, (5,)), ("acks", 2, "", 2), told(2, 1, (4,))), 3, (0, 3, 2)),
    (past_of(told(1, 1, (4,)), told(2, 1, (4,)), told(3, 1, (6,)), heard(3, 1, (5,))), 3, (0, 3, 1)),
    # A link that rose again: nothing of the old one counts.
    (past_of(told(2, 5, (1,)), ("fall", 2), ("rise", 2)), 2, "idle"),
    (past_of(told(2, 5, (1,)), ("fall", 2), ("rise", 2), told(2, 1, (4,))), 1, (0, 1, 2)),
    (past_of(told(2, 5, (1,)), ("fall", 2), ("rise", 2), told(2, 3, (4,)), ("backs", 2, "", 1)), 2, (0, 2)),
)


class Questions(unittest.TestCase):

    def serves(self, past, address, m, answer):
        """The run can be done, its view is the past, each of the ring but the first may hand on."""
        self.assertEqual((len(answer), answer[0], has_list(answer)), (3, "net", False))
        run, ring = answer[1:]
        world = run_deeds(run)
        self.assertEqual(world.view(past[0]), past)
        self.assertEqual((ring[:2], len(set(ring))), ((past[0], m), len(ring)))
        for one, other in zip(ring[1:], ring[2:] + ring[:1]):
            events = world.view(one)[1]
            self.assertIn(other, plain.near(events))
            self.assertTrue(plain.may(list(events), address, other), (past, address, m, run, ring))
        self.assertLessEqual(len(run), 2 * len(past[1]) + 4)
        self.assertIs(net_serves(past, address, m, run, ring), True)

    def check(self, past, address, m):
        """One neighbour, by a plain reading of the past; what was met."""
        events = list(past[1])
        answer = question(past, address, m)
        if plain.may(events, address, m):
            self.assertEqual(answer, ("let",))
            return "let"
        why = plain.why(events, address, m)
        if why == ("none",):
            self.assertEqual(answer, ("idle",))
            return "idle"
        self.serves(past, address, m, answer)
        self.assertEqual(len(answer[2]), 2 if why == ("up", m) else 3)
        return len(answer[2])

    def test_told_cases(self):
        for past, m, answer in CASES:
            check_past(past)
            for address in (A, "010111"):
                if address == A or A not in [event[2] for event in past[1] if len(event) > 2]:
                    met = self.check(past, address, m)
                    self.assertEqual(met, len(answer) if type(answer) is tuple else answer, (past, m))
            if type(answer) is tuple:
                self.assertEqual(question(past, A, m)[2], answer)

    def test_named_and_untouched(self):
        for past, m, answer in CASES:
            call = outcome(question, past=past, address=A, m=m)
            self.assertEqual(untouched(question, past, A, m), (call, True))
            if type(answer) is str:
                self.assertEqual(call, returned((answer,)))

    def test_no_neighbour(self):
        past = past_of(("rise", 31), ("fall", 2), told(1, 1, (3,)))
        for m in range(32):
            self.assertEqual(outcome(question, past, A, m) == raised(Refused(m)), m not in (1, 3, 31))
        for m in (0, 1, 31):
            self.assertEqual(outcome(question, (0, ()), A, m), raised(Refused(m)))

    def test_chance_pasts(self):
        chance = random.Random(32)
        met = {}
        for _ in range(220):
            past, address = drawn.rich_past(chance, chance.choice((3, 8, 15, 30, 60)))
            for a in (address, chance.choice(plain.ADDRESSES)):
                for m in plain.near(past[1]):
                    told_kind = self.check(past, a, m)
                    met[told_kind] = met.get(told_kind, 0) + 1
        for kind in ("let", "idle", 2, 3):
            self.assertGreater(met[kind], 60, met)

    def test_few_neighbours_with_much_told(self):
        chance = random.Random(34)
        met = {}
        for _ in range(150):
            past = drawn.past(chance, plain.may_come, chance.choice((12, 25, 45)), (1, 4, 7)[:chance.randrange(2, 4)])
            for a in plain.ADDRESSES[:3]:
                for m in plain.near(past[1]):
                    told_kind = self.check(past, a, m)
                    met[told_kind] = met.get(told_kind, 0) + 1
        for kind in ("let", "idle", 2, 3):
            self.assertGreater(met[kind], 60, met)

    def test_where_it_is_idle_nobody_may_hand_here(self):
        idle = 0
        for world in chance_worlds(35, 20, 80):
            for a in ("010111", "110000"):
                pairs = handings(world, a)
                for i in world.names():
                    past = world.view(i)
                    if any(question(past, a, m) == ("idle",) for m in plain.near(past[1])):
                        idle += 1
                        self.assertFalse([pair for pair in pairs if pair[1] == i])
        self.assertGreater(idle, 300)

    def test_the_ring_is_closed_by_this_handing_alone(self):
        chance = random.Random(36)
        for _ in range(40):
            past, a = drawn.rich_past(chance, 20)
            for m in plain.near(past[1]):
                answer = question(past, a, m)
                if answer[0] == "net":
                    pairs = handings(run_deeds(answer[1]), a)
                    ring = answer[2]
                    self.assertNotIn((past[0], m), pairs)
                    self.assertTrue(all(pair in pairs for pair in zip(ring[1:], ring[2:] + ring[:1])))
