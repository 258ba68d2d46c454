"""[33], and [31]."""

import itertools
import random
import unittest

from maypoint.errors import BadDeed
from maypoint.judges import net_serves
from maypoint.nets import question
from maypoint.worlds import World, run_deeds
from tests import chance as drawn
from tests import plain
from tests.support import any_values, outcome, returned, untouched


def serves(past, address, m, run, ring):
    """[31], condition by condition."""
    if type(ring) is not tuple or not 1 < len(ring) < 9 or not all(plain.is_name(name) for name in ring):
        return False
    if len(set(ring)) < len(ring) or ring[0] != past[0] or ring[1] != m:
        return False
    try:
        world = run_deeds(run)
    except BadDeed:
        return False
    if repr(world.view(past[0])) != repr(past):
        return False
    for one, other in zip(ring[1:], ring[2:] + ring[:1]):
        events = list(world.view(one)[1])
        if other not in plain.near(events) or not plain.may(events, address, other):
            return False
    return True


def changed_deed(chance, deed):
    """A deed of which one part is another one."""
    at = chance.randrange(len(deed))
    part = deed[at]
    if type(part) is int:
        value = chance.choice((part + 1, part - 1, bool(part), None))
    elif type(part) is tuple:
        value = chance.choice((part[:-1] + (part[-1] ^ 1,), (part[0] + 1,) + part[1:], list(part), None, (True,) + part[1:]))
    else:
        value = chance.choice((part and part[:-1], "rise", "tell", "come", None, 0))
    return chance.choice((deed[:at] + (value,) + deed[at + 1:], list(deed), deed[:-1], deed + (1,)))


def changed_run(chance, run, i):
    """A run of which one part is another one."""
    at, to = chance.randrange(len(run)), chance.randrange(len(run))
    far = [name for name in range(32) if all(name not in deed[1:3] for deed in run)]
    return chance.choice((
        run[:at] + run[at + 1:],
        run[:at] + run[at:at + 1] + run[at:],
        run[:at] + run[at + 1:at + 2] + run[at:at + 1] + run[at + 2:],
        run[:at] + (changed_deed(chance, run[at]),) + run[at + 1:],
        run[:min(at, to)] + run[max(at, to):],
        run[:at] + (("rise", far[0], far[1]),) + run[at:],
        run + (("rise", far[0], far[1]), ("tell", far[0], far[1], "", 1, None)),
        run + (("rise", i, far[0]),),
        run + (("rise", far[0], i), ("fall", far[0], i)),
        run + (("rise", far[0], run[0][2] if run[0][1] == i else run[0][1]),),
        list(run), run + (None,), run + ((),),
    ))


def changed_ring(chance, ring):
    """A ring of which something is otherwise."""
    other = chance.randrange(32)
    return chance.choice((
        ring[::-1], ring + ring, ring[1:] + ring[:1], ring[:-1], ring + (other,), ring + ring[:1], ring + ring[1:2], ring[:1], (),
        ring[:1] + ring[2:] + ring[1:2], list(ring), tuple(range(8)), tuple(range(9)), tuple(bool(name) for name in ring),
        ring[:1] + ring[:1] + ring[1:], (other,) + ring[1:], ring[:2] + (other,) + ring[2:],
    ))


def long_net(many):
    """A past of node 0, whom node 1 may be handed to, and a told net with a ring of so many nodes."""
    last = many - 1
    run = [("rise", 0, 1)] + [("rise", 0, last)] * (last > 1) + [("tell", 0, last, "", 1, (5, 0)), ("come", 0, last, "")]
    for one in range(last, 1, -1):
        run += [("rise", one, one - 1), ("tell", one, one - 1, "", 1, (5 + many - one, one)), ("come", one, one - 1, "")]
    run = tuple(run)
    return run_deeds(run).view(0), run, tuple(range(many))


def chance_runs(seed, many, length):
    """Runs by chance, each with the world behind it."""
    chance = random.Random(seed)
    for _ in range(many):
        world, serials, deeds = World(), drawn.Serials(chance), []
        for pair in itertools.combinations((0, 3, 9, 30), 2):
            world.do(("rise",) + pair)
            deeds.append(("rise",) + pair)
        for _ in range(length):
            deed = drawn.deed(chance, serials, (0, 3, 9, 30), world.under_way(), ("", "", "01"))
            if deed[0] != "fall" and outcome(world.do, deed) == returned(None):
                deeds.append(deed)
        yield tuple(deeds), world


class Judges(unittest.TestCase):

    def told_nets(self, seed, many, events):
        """Told nets of pasts by chance."""
        chance = random.Random(seed)
        while many:
            past, a = drawn.rich_past(chance, events)
            for m in plain.near(past[1]):
                answer = question(past, a, m)
                if answer[0] == "net" and many:
                    many -= 1
                    yield chance, past, a, m, answer[1], answer[2]

    def same(self, past, a, m, run, ring):
        told = serves(past, a, m, run, ring)
        self.assertEqual(untouched(net_serves, past, a, m, run, ring), (returned(told), True), (past, a, m, run, ring))
        return told

    def test_runs_with_one_part_changed(self):
        met = {True: 0, False: 0}
        for chance, past, a, m, run, ring in self.told_nets(33, 60, 12):
            self.assertTrue(self.same(past, a, m, run, ring))
            for _ in range(25):
                met[self.same(past, a, m, changed_run(chance, run, past[0]), ring)] += 1
        self.assertGreater(min(met.values()), 100, met)

    def test_every_deed_left_out(self):
        for chance, past, a, m, run, ring in self.told_nets(37, 12, 10):
            for at in range(len(run)):
                self.same(past, a, m, run[:at] + run[at + 1:], ring)
                self.same(past, a, m, run[:at], ring)
                self.same(past, a, m, run[:at] + run[at:at + 1] + run[at:], ring)

    def test_rings_changed(self):
        met = {True: 0, False: 0}
        for chance, past, a, m, run, ring in self.told_nets(38, 60, 15):
            for _ in range(25):
                met[self.same(past, a, m, run, changed_ring(chance, ring))] += 1
        self.assertGreater(met[False], 500, met)

    def test_another_past_address_or_neighbour(self):
        for chance, past, a, m, run, ring in self.told_nets(39, 60, 12):
            other, b = drawn.rich_past(chance, 12)
            self.same(past, b, m, run, ring)
            for x in plain.near(past[1]):
                self.same(past, a, x, run, ring)
                self.same(past, a, x, run, (ring[0], x) + ring[2:])
            if plain.near(other[1]):
                self.assertIs(net_serves(other, a, plain.near(other[1])[0], run, ring), False)
            shorter = (past[0], past[1][:-1])
            if m in plain.near(shorter[1]):
                self.assertIs(net_serves(shorter, a, m, run, ring), False)

    def test_any_value(self):
        past, run, ring = long_net(3)
        for value in any_values():
            self.assertEqual(untouched(net_serves, past, "000000", 1, value, ring), (returned(False), True))
            self.assertEqual(untouched(net_serves, past, "000000", 1, run, value), (returned(False), True))
            for at in range(len(run)):
                self.same(past, "000000", 1, run[:at] + (value,) + run[at + 1:], ring)
            for at in range(len(ring)):
                self.same(past, "000000", 1, run, ring[:at] + (value,) + ring[at + 1:])
        named = outcome(net_serves, past=past, address="000000", m=1, run=run, ring=ring)
        self.assertEqual(named, returned(True))

    def test_true_is_no_number(self):
        past, run, ring = long_net(3)
        self.assertIs(net_serves(past, "000000", 1, run, ring), True)
        self.assertIs(net_serves(past, "000000", 1, run, (0, True, 2)), False)
        self.assertIs(net_serves(past, "000000", 1, run, (False, 1, 2)), False)
        for at, deed in enumerate(run):
            for place, part in enumerate(deed):
                if part in (0, 1) and type(part) is int:
                    wrong = run[:at] + (deed[:place] + (bool(part),) + deed[place + 1:],) + run[at + 1:]
                    self.assertIs(net_serves(past, "000000", 1, wrong, ring), False)

    def test_lists(self):
        past, run, ring = long_net(4)
        for wrong in (list(run), (run,), run[:-1] + (list(run[-1]),), [run], tuple(list(deed) for deed in run)):
            self.assertIs(net_serves(past, "000000", 1, wrong, ring), False)
        for wrong in (list(ring), (ring,), [ring]):
            self.assertIs(net_serves(past, "000000", 1, run, wrong), False)

    def test_rings_of_two_to_eight_and_of_nine(self):
        for many in range(2, 9):
            past, run, ring = long_net(many)
            self.assertTrue(self.same(past, "000000", 1, run, ring))
            for at in range(len(run)):
                self.assertIs(net_serves(past, "000000", 1, run[:at] + run[at + 1:], ring), False)
        past, run, ring = long_net(9)
        world = run_deeds(run)
        self.assertTrue(all(other in world.book(one).let("000000") for one, other in zip(ring[1:], ring[2:] + ring[:1])))
        self.assertIs(net_serves(past, "000000", 1, run, ring), False)
        self.assertIs(net_serves(past, "000000", 1, run, (0,)), False)

    def test_more_nodes_and_deeds_that_the_node_does_not_see(self):
        past, run, ring = long_net(8)
        more = tuple(("rise", i, j) for i, j in itertools.combinations(range(8, 32), 2))
        serials = range(1, 1200 - len(run) - len(more) + 1)
        run = more + run + tuple(("tell", 30, 31, "", serial, (serial, 30)) for serial in serials)
        self.assertEqual(len(run), 1200)
        self.assertIs(net_serves(past, "000000", 1, run, ring), True)
        self.assertIs(net_serves(past, "000000", 1, run[:-1] + (run[-2],), ring), False)
        self.assertIs(net_serves(past, "000000", 1, run[:-1] + (("rise", 0, 31),), ring), False)

    def test_false_wherever_the_handing_is_let(self):
        met = 0
        for deeds, world in chance_runs(40, 60, 70):
            for i in world.names():
                past = world.view(i)
                for m in world.book(i).let("010111"):
                    others = [name for name in world.names() if name not in (i, m)]
                    for many in (0, 1, 2):
                        for rest in itertools.permutations(others, many):
                            met += 1
                            self.assertIs(net_serves(past, "010111", m, deeds, (i, m) + rest), False)
        self.assertGreater(met, 300)
