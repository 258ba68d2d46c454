"""[70] and [71]."""

import itertools
import random
import unittest

from maypoint.calm import at_rest, distances
from maypoint.dark import dark_bound, houseless_parts, opened_nodes
from maypoint.fields import Field, one_round
from maypoint.rings import handings, ring_in
from maypoint.waits import held_reports
from maypoint.whole import all_answers, told_bounds
from maypoint.worlds import World, run_deeds
from tests import bare, plain, shapes
from tests import chance as drawn
from tests.support import has_list, outcome, returned

ADDRESSES = ("010111", "110000")


def worlds(seed, many, length):
    """Worlds of two to eight nodes at several instants."""
    chance = random.Random(seed)
    for _ in range(many):
        names = tuple(chance.sample(range(32), chance.choice((2, 3, 5, 8))))
        world, serials, done = World(), drawn.Serials(chance), 0
        for pair in itertools.combinations(names, 2):
            if chance.random() < 0.7:
                world.do(("rise",) + pair)
                done += 1
        stretches = chance.choice((("",), ("", "01"), plain.STRETCHES))
        for at in range(length):
            deed = drawn.deed(chance, serials, names, world.under_way(), stretches)
            if done < 200 and outcome(world.do, deed) == returned(None):
                done += 1
            if at % (length // 3) == 0:
                yield chance, world
        yield chance, world


class Answers(unittest.TestCase):

    def net(self, past, address, m, run, ring):
        """[31] on what is told."""
        world = run_deeds(run)
        self.assertEqual((world.view(past[0]), ring[:2], len(set(ring))), (past, (past[0], m), len(ring)))
        for one, other in zip(ring[1:], ring[2:] + ring[:1]):
            self.assertTrue(plain.may(list(world.view(one)[1]), address, other))
        self.assertIsNotNone(ring_in(handings(world, address) + (ring[:2],)))

    def check(self, world, address, met):
        rows = all_answers(world, address)
        self.assertFalse(has_list(rows))
        pairs = [(i, m) for i in world.names() for m in plain.near(world.view(i)[1])]
        self.assertEqual([row[:2] for row in rows], pairs)
        self.assertEqual(pairs, sorted(pairs))
        # Those that are let are just the handings, and they close no ring.
        let = tuple(row[:2] for row in rows if row[2] == ("let",))
        self.assertEqual(let, handings(world, address))
        self.assertIsNone(ring_in(let))
        for i, m, answer in rows:
            past = world.view(i)
            events = list(past[1])
            idle = not plain.up(events, address) and plain.l(events, address, m) is None
            self.assertEqual((answer[0] == "idle", answer[0] == "let"), (idle, plain.may(events, address, m)))
            self.assertEqual(len(answer), 3 if answer[0] == "net" else 1)
            if answer[0] == "net":
                self.assertEqual(len(answer[2]), 2 if m in plain.up(events, address) else 3)
                self.net(past, address, m, answer[1], answer[2])
            kind = answer[0] + str(len(answer[2]) if answer[0] == "net" else "")
            met[kind] = met.get(kind, 0) + 1

    def test_worlds(self):
        met = {}
        for chance, world in worlds(70, 20, 90):
            before = [world.view(name) for name in world.names()]
            for address in ADDRESSES:
                self.check(world, address, met)
            self.assertEqual([world.view(name) for name in world.names()], before)
        self.assertGreater(min(met.get(kind, 0) for kind in ("let", "idle", "net2", "net3")), 100, met)

    def test_the_greatest_worlds(self):
        met = {}
        chance = random.Random(71)
        world, serials, done = World(), drawn.Serials(chance), 28
        for pair in itertools.combinations((0, 3, 4, 5, 9, 17, 30, 31), 2):
            world.do(("rise",) + pair)
        while done < 200:
            deed = drawn.deed(chance, serials, world.names(), world.under_way(), ("", "01"))
            done += deed[0] != "fall" and outcome(world.do, deed) == returned(None)
        self.check(world, "010111", met)
        self.assertGreater(min(met.get(kind, 0) for kind in ("let", "net2", "net3")), 5, met)

    def test_small_worlds(self):
        self.assertEqual(outcome(all_answers, world=World(), address="000000"), returned(()))
        world = run_deeds((("rise", 4, 2), ("rise", 2, 9)))
        self.assertEqual(all_answers(world, "000000"), ((2, 4, ("idle",)), (2, 9, ("idle",)), (4, 2, ("idle",)), (9, 2, ("idle",))))
        world = run_deeds((("rise", 4, 2), ("fall", 2, 4)))
        self.assertEqual(all_answers(world, "000000"), ())


class Bounds(unittest.TestCase):

    def test_both_sides_of_where_a_quotient_is_whole(self):
        for n in (1, 2, 7, 8, 10 ** 9):
            for cost in (1, 2, 3, 7, 1000, 10 ** 9):
                for times in (0, 1, 5):
                    for more in (-1, 0, 1):
                        far = times * cost + more
                        if far >= 0:
                            told = (2 * n, 2 * n + 2, far // cost + 5 * n + 4)
                            self.assertEqual(outcome(told_bounds, n, far, cost), returned(told))
                            self.assertEqual(outcome(told_bounds, cost=cost, distance=far, n=n), returned(told))
                self.assertEqual(told_bounds(n, 0, cost)[1], dark_bound(n))
        self.assertEqual(told_bounds(1, 6, 7), (2, 4, 9))
        self.assertEqual(told_bounds(1, 7, 7), (2, 4, 10))
        self.assertEqual(told_bounds(3, 13, 7)[2], 20)

    def test_within_them(self):
        """[71] in fields: acknowledged, without an arrow, at rest."""
        for chance, n, field in shapes.instants(72, 20, 4, falls=0.08):
            for _ in range(30):
                outcome(field.do, shapes.deed_by_chance(chance, field, n, 0.08, 0.4))
            costs = [cost for link in field.links() for cost in link[2:]] or [1]
            stretches = sorted({p for own in bare.homes_of(field) for p in own})
            far = max([price for p in stretches for price in distances(field, p) if price is not None], default=0)
            held, dark, calm = told_bounds(n, far, min(costs))
            due = [(x, i, p, bare.bare(field).came(i, x, p)[-1][0]) for x, i, p in held_reports(field)]
            for rounds in range(1, calm + 1):
                one_round(field, chance.randrange(50), ())
                if rounds == held:
                    read = bare.bare(field)
                    self.assertTrue(all(max(read.acked(x, i, p)) >= serial for x, i, p, serial in due))
                if rounds >= dark:
                    for p in stretches:
                        self.assertEqual(opened_nodes(field, p), ())
                        self.assertTrue(all(field.node(i).target(p) is None for part in houseless_parts(field, p) for i in part))
            self.assertIs(at_rest(field), True)

    def test_a_field_without_links(self):
        field = Field((("",),))
        self.assertEqual(one_round(field, 0, ()), 0)
        self.assertIs(at_rest(field), True)
