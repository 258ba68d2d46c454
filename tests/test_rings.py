"""[28] to [30], and [6] in whole worlds."""

import itertools
import random
import unittest

from maypoint.errors import Refused
from maypoint.rings import hand_order, hand_ways, handings, ring_in
from maypoint.worlds import World, run_deeds
from tests import chance as drawn
from tests import plain
from tests.support import outcome, raised, returned, untouched


def names_of(pairs):
    return sorted({name for pair in pairs for name in pair})


def has_ring(pairs):
    """Whether going on from some name leads back to it."""
    for start in names_of(pairs):
        reached, more = set(), {start}
        while more:
            more = {other for one, other in pairs if one in more} - reached
            reached |= more
        if start in reached:
            return True
    return False


def order_by_the_words(pairs):
    order = []
    while len(order) < len(names_of(pairs)):
        free = [name for name in names_of(pairs) if name not in order
                and all(one in order for one, other in pairs if other == name)]
        order.append(min(free))
    return tuple(order)


def all_ways(pairs, name):
    """The ways that begin at this name, each written out."""
    led = [other for one, other in pairs if one == name]
    return [(name,) + way for other in led for way in all_ways(pairs, other)] or [(name,)]


def is_ring(pairs, ring):
    return (type(ring) is tuple and len(ring) > 1 and len(set(ring)) == len(ring)
            and all(pair in pairs for pair in zip(ring, ring[1:] + ring[:1])))


class Pairs(unittest.TestCase):

    def check(self, pairs):
        if has_ring(pairs):
            self.assertTrue(is_ring(pairs, ring_in(pairs)), pairs)
            self.assertEqual(untouched(hand_order, pairs), (raised(Refused(pairs)), True))
        else:
            self.assertEqual(untouched(ring_in, pairs), (returned(None), True))
            self.assertEqual(untouched(hand_order, pairs), (returned(order_by_the_words(pairs)), True), pairs)

    def test_told_cases(self):
        for pairs, order in (
            ((), ()), (((1, 0),), (1, 0)), (((0, 1),), (0, 1)), (((5, 2), (2, 9), (5, 9), (1, 9)), (1, 5, 2, 9)),
            (((31, 0), (30, 1)), (30, 1, 31, 0)), (((9, 1), (9, 0)), (9, 0, 1)), (((2, 0), (1, 0), (3, 1)), (2, 3, 1, 0)),
        ):
            self.assertEqual(outcome(hand_order, pairs=pairs), returned(order))
            self.assertEqual(outcome(ring_in, pairs=pairs), returned(None))
        for pairs in (((0, 1), (1, 0)), ((5, 2), (2, 9), (9, 5)), ((9, 5), (7, 9), (5, 2), (2, 9)),
                      ((0, 1), (1, 2), (2, 1), (2, 3)), ((3, 4), (0, 1), (1, 2), (4, 3), (2, 0))):
            self.assertTrue(is_ring(pairs, ring_in(pairs=pairs)))
            self.assertEqual(outcome(hand_order, pairs=pairs), raised(Refused(pairs)))

    def test_all_pairs_of_three(self):
        every = [(one, other) for one in (0, 4, 31) for other in (0, 4, 31) if one != other]
        for many in range(7):
            for pairs in itertools.permutations(every, many):
                self.check(pairs)

    def test_chance_pairs(self):
        chance = random.Random(29)
        for _ in range(1500):
            names = chance.sample(range(32), chance.choice((4, 6, 12, 32)))
            every = [(one, other) for one, other in itertools.permutations(names, 2)]
            if chance.random() < 0.6:
                every = [(one, other) for one, other in every if names.index(one) < names.index(other)]
            self.check(tuple(chance.sample(every, min(len(every), chance.choice((1, 3, 5, 8, 20, 60))))))

    def test_long_rings(self):
        for many in (2, 3, 8, 20, 32):
            ring = tuple((name, (name + 1) % many) for name in range(many))
            tail = tuple((name, name + 1) for name in range(many, 31))
            self.check(ring + tail)
            self.check(tail + ring[::-1])
            self.check(ring[1:] + tail)
            self.assertEqual(len(ring_in(ring)), many)


def chance_worlds(seed, many, deeds, names=(0, 3, 9, 30)):
    """Worlds at each of their instants."""
    chance = random.Random(seed)
    for _ in range(many):
        world, serials = World(), drawn.Serials(chance)
        for one, other in itertools.combinations(names, 2):
            if chance.random() < 0.8:
                world.do(("rise", one, other))
        for _ in range(deeds):
            deed = drawn.deed(chance, serials, names, world.under_way(), ("", "", "0", "01"))
            if deed[0] == "fall" and chance.random() < 0.7:
                continue
            if outcome(world.do, deed) == returned(None):
                yield world


class Handings(unittest.TestCase):

    def test_no_handings(self):
        for world in (World(), run_deeds((("rise", 0, 1),)), run_deeds((("rise", 0, 1), ("tell", 0, 1, "", 1, (0, 0))))):
            self.assertEqual(outcome(handings, world, "000000"), returned(()))
            self.assertEqual(outcome(hand_ways, world, "000000", 0), returned(1))

    def test_against_a_plain_reading(self):
        met = 0
        for world in chance_worlds(30, 12, 120):
            for address in ("010111", "110000"):
                told = tuple((i, m) for i in range(32) for m in plain.may_hand(world, i, address))
                self.assertEqual(outcome(handings, world, address), returned(told))
                met = max(met, len(told))
        self.assertGreater(met, 4)

    def test_the_world_does_not_change(self):
        for world in chance_worlds(31, 2, 60):
            before = [world.view(name) for name in range(32)], world.links(), world.under_way()
            handings(world=world, address="010111")
            hand_ways(world=world, address="010111", name=3)
            self.assertEqual(([world.view(name) for name in range(32)], world.links(), world.under_way()), before)

    def test_no_ring_at_any_instant(self):
        rows = {}
        for names in ((0, 3, 9, 30), (1, 2, 5, 6, 8, 13)):
            for world in chance_worlds(32, 60, 160, names):
                for address in ("010111", "001111", "110000"):
                    pairs = handings(world, address)
                    self.assertIsNone(ring_in(pairs))
                    self.assertFalse(has_ring(pairs))
                    rows[len(pairs)] = True
        self.assertGreater(max(rows), 5)

    def test_whoever_is_let_hand_is_up(self):
        for world in chance_worlds(33, 15, 120):
            for i, m in handings(world, "010111"):
                self.assertIn(i, world.book(m).up("010111"))


class Ways(unittest.TestCase):

    def test_told_ways(self):
        deeds = [("rise", i, j) for i, j in itertools.combinations(range(5), 2)]
        for i, j in itertools.combinations(range(5), 2):
            deeds += [("tell", i, j, "", 1, (2 * i, i)), ("come", i, j, "")]
        world = run_deeds(tuple(deeds))
        # Each may hand to all lesser names, so the ways double with each name.
        self.assertEqual([hand_ways(world, "000000", name) for name in range(6)], [1, 1, 2, 4, 8, 1])
        self.assertEqual(handings(world, "000000"), tuple((i, j) for i in range(5) for j in range(i)))
        self.assertEqual(hand_order(handings(world, "000000")), (4, 3, 2, 1, 0))

    def test_names_without_a_link(self):
        world = run_deeds((("rise", 0, 1), ("tell", 0, 1, "", 1, (3, 0)), ("come", 0, 1, "")))
        self.assertEqual([hand_ways(world, "000000", name) for name in range(32)], [1] * 32)
        world.do(("fall", 0, 1))
        self.assertEqual([hand_ways(world, "000000", name) for name in range(32)], [1] * 32)

    def test_against_ways_written_out(self):
        most = 0
        for world in chance_worlds(34, 15, 120):
            pairs = handings(world, "010111")
            for name in (0, 3, 9, 30, 31):
                ways = all_ways(pairs, name)
                self.assertTrue(all(len(set(way)) == len(way) for way in ways))
                self.assertEqual(outcome(hand_ways, world, "010111", name), returned(len(ways)))
                most = max(most, len(ways))
        self.assertGreater(most, 2)
