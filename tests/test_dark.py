"""[55] to [57]."""

import random
import unittest

from maypoint.dark import arrow_chain, dark_bound, houseless_parts, opened_nodes
from maypoint.fields import Field, one_round
from tests import bare, shapes
from tests.support import has_list, outcome, returned


def settled(homes, links):
    """A field with these links, at rest."""
    field = Field(homes)
    for link in links:
        field.do(("rise",) + link)
    while field.under_way():
        one_round(field, 0, ())
    return field


def opened(field, p):
    """[55] by the bare run."""
    read = bare.bare(field)
    return tuple(i for i in range(len(field.arrows(""))) if bare.is_open(field, read, i, p))


class Asked(unittest.TestCase):

    def test_open_nodes_and_chains(self):
        many = long = 0
        for chance, n, field in shapes.instants(550, 80, 30, falls=0.1):
            for p in shapes.stretches_told(field):
                told = opened(field, p)
                self.assertEqual(outcome(opened_nodes, field, p), returned(told))
                many += len(told)
                for i in range(n):
                    names = bare.chain(field, p, i)
                    self.assertEqual(outcome(arrow_chain, field, p, i), returned(names))
                    long = max(long, len(names))
        self.assertGreater(many, 300)
        self.assertGreater(long, 4)

    def test_parts(self):
        met = {}
        for chance, n, field in shapes.instants(551, 80, 12, sizes=(1, 2, 3, 5, 8), falls=0.2):
            for p in shapes.stretches_told(field):
                told = tuple(part for part in bare.parts(field) if not bare.has_house(field, part, p))
                self.assertEqual(outcome(houseless_parts, field, p), returned(told))
                met[len(told)] = met.get(len(told), 0) + 1
        self.assertGreater(min(met[many] for many in (0, 1, 2, 3)), 30, met)

    def test_small_fields(self):
        self.assertEqual((houseless_parts(Field(()), ""), opened_nodes(Field(()), "")), ((), ()))
        field = Field((("",), ("0",), ()))
        self.assertEqual(outcome(houseless_parts, field=field, stretch=""), returned(((1,), (2,))))
        self.assertEqual(outcome(houseless_parts, field=field, stretch="0"), returned(((0,), (2,))))
        self.assertEqual(outcome(houseless_parts, field=field, stretch="00"), returned(((0,), (1,), (2,))))
        self.assertEqual(outcome(opened_nodes, field=field, stretch=""), returned(()))
        self.assertEqual(outcome(arrow_chain, field=field, stretch="", i=2), returned((2,)))

    def test_the_order_of_parts(self):
        field = settled(((),) * 8, ((7, 1, 1, 1), (6, 2, 1, 1), (0, 5, 1, 1), (5, 3, 1, 1)))
        self.assertEqual(houseless_parts(field, ""), ((0, 3, 5), (1, 7), (2, 6), (4,)))
        self.assertFalse(has_list(houseless_parts(field, "")))

    def test_who_is_open(self):
        """No house, no target, and a number that it told may still count."""
        field = settled((("",), (), ()), ((0, 1, 9, 4), (1, 2, 6, 5)))
        self.assertEqual([arrow_chain(field, "", i) for i in range(3)], [(0,), (1, 0), (2, 1, 0)])
        self.assertEqual(opened_nodes(field, ""), ())
        field.do(("fall", 1, 0))
        # The house lost nothing, and node 2 has a target still.
        self.assertEqual((opened_nodes(field, ""), arrow_chain(field, "", 2), arrow_chain(field, "", 1)), ((1,), (2, 1), (1,)))
        field.do(("bring", 1, 2, "", "report"))
        # Node 2 told NONE, too, but leaves its target only once this is acknowledged.
        self.assertEqual((opened_nodes(field, ""), field.arrows("")), ((1,), (None, None, 1)))
        field.do(("bring", 2, 1, "", "report"))
        field.do(("bring", 1, 2, "", "ack"))
        self.assertEqual((opened_nodes(field, ""), field.arrows("")), ((1,), (None, None, None)))
        # Behind the acknowledgement that comes back only NONE counts: it is closed.
        field.do(("bring", 2, 1, "", "ack"))
        self.assertEqual(opened_nodes(field, ""), ())
        self.assertEqual(dark_bound(3), 8)

    def test_what_was_told_on_a_link_that_fell(self):
        """It counts no more, so a node is open as long as there is another neighbour to whom it told a number."""
        field = settled((("",), (), (), ()), ((0, 1, 1, 1), (1, 2, 1, 1), (1, 3, 1, 1)))
        for deed, told in ((("fall", 0, 1), (1,)), (("fall", 1, 2), (1,)), (("fall", 1, 3), ())):
            field.do(deed)
            self.assertEqual(opened_nodes(field, ""), told)

    def test_another_stretch_is_another_thing(self):
        field = settled((("", "01"), ("1",)), ((0, 1, 1, 1),))
        field.do(("fall", 0, 1))
        for p in ("", "01", "1", "0", "011111"):
            self.assertEqual((opened_nodes(field, p), arrow_chain(field, p, 1)), ((), (1,)))
        field = settled((("", "01"), (), ()), ((0, 1, 1, 1), (1, 2, 1, 1)))
        field.do(("fall", 0, 1))
        self.assertEqual([opened_nodes(field, p) for p in ("", "01", "0", "011")], [(1,), (1,), (), ()])

    def test_bounds(self):
        for n in range(1, 40):
            self.assertEqual(outcome(dark_bound, n), returned(2 * n + 2))
        self.assertEqual(outcome(dark_bound, n=10 ** 9), returned(2 * 10 ** 9 + 2))


class Theorems(unittest.TestCase):

    def test_who_comes_to_be_open_and_where_chains_end(self):
        """[56], deed by deed."""
        came = 0
        for seed in range(3):
            before, last = {}, None
            for chance, n, field in shapes.instants(560 + seed, 20, 6, falls=0.08):
                for _ in range(12):
                    stretches = shapes.stretches_told(field)
                    before = {p: opened_nodes(field, p) for p in stretches}
                    deed = shapes.deed_by_chance(chance, field, n, 0.08)
                    outcome(field.do, deed)
                    for p in stretches:
                        new = set(opened_nodes(field, p)) - set(before[p])
                        self.assertTrue(not new or deed[0] == "fall" and new <= set(deed[1:]), (deed, new))
                        came += len(new)
                        self.ends(field, n, p)
        self.assertGreater(came, 50)

    def ends(self, field, n, p):
        open_now = opened_nodes(field, p)
        for i in range(n):
            end = arrow_chain(field, p, i)[-1]
            if end != i:
                self.assertTrue(field.node(end).number(p) == (0, end) or end in open_now)
                self.assertTrue(any(i in part and end in part for part in bare.parts(field)))
        for part in houseless_parts(field, p):
            if not set(part) & set(open_now):
                self.assertEqual([field.node(i).target(p) for i in part], [None] * len(part))

    def between(self, chance, field, n, far=()):
        """Costs turn and links rise, and none falls but such as are far."""
        deeds = [shapes.deed_by_chance(chance, field, n, 0, 0.5, chance.choice((None, "ack"))) for _ in range(chance.choice((0, 3, 15)))]
        for _ in range(chance.choice((0, 0, 1))):
            i, j = chance.sample(range(n), 2)
            if not far or len({i, j} & set(far)) != 1:
                deeds.append(("rise", i, j, chance.randint(1, 9), chance.randint(1, 9)))
        if len(far) > 1:
            i, j = chance.sample(far, 2)
            deeds += [chance.choice((("fall", i, j), ("rise", i, j, 2, 3))) for _ in range(3)]
        return tuple(deeds)

    def test_nobody_is_open_in_time(self):
        """[57]: 2 n + 2 rounds behind the last fall, while costs turn and links rise."""
        met = 0
        for seed in range(3):
            for chance, n, field in shapes.instants(570 + seed, 20, 4, sizes=(2, 3, 4, 5, 8), falls=0.1):
                for i, j, _, _ in chance.sample(field.links(), len(field.links()) // 2):
                    field.do(("fall", i, j))
                met += any(opened_nodes(field, p) for p in shapes.stretches_told(field))
                for _ in range(dark_bound(n)):
                    one_round(field, chance.randrange(100), self.between(chance, field, n))
                for _ in range(3):
                    for p in shapes.stretches_told(field):
                        self.assertEqual(opened_nodes(field, p), ())
                        for part in houseless_parts(field, p):
                            self.assertEqual([field.node(i).target(p) for i in part], [None] * len(part))
                    one_round(field, chance.randrange(100), self.between(chance, field, n))
        self.assertGreater(met, 50)

    def test_one_part_alone(self):
        """It is enough that no link of a node falls that is in the part in the end."""
        chance = random.Random(573)
        for _ in range(25):
            n = chance.choice((6, 7, 8))
            own, far = tuple(range(n - 3)), (n - 3, n - 2, n - 1)
            field = shapes.field_by_chance(chance, n, "all", ((),) * (n - 3) + ((), ("",), ("",)))
            for _ in range(60):
                outcome(field.do, shapes.deed_by_chance(chance, field, n, 0))
            for i in own:
                for j in far:
                    outcome(field.do, ("fall", i, j))
            self.assertIn(own, houseless_parts(field, ""))
            for _ in range(dark_bound(n)):
                one_round(field, chance.randrange(100), self.between(chance, field, n, far))
            self.assertIn(own, houseless_parts(field, ""))
            self.assertEqual([i for i in opened_nodes(field, "") if i in own], [])
            self.assertEqual([field.node(i).target("") for i in own], [None] * len(own))

    def test_a_ring_without_a_house_counts_to_no_end(self):
        """The numbers climb no further, however the costs do."""
        for n in range(2, 9):
            field = settled((("",),) + ((),) * (n - 1), tuple((i, i + 1, 1, 1) for i in range(n - 1)) + ((0, n - 1, 1, 1),) * (n > 2))
            for j in {1, n - 1}:
                field.do(("fall", 0, j))
            for turn in range(dark_bound(n)):
                one_round(field, turn, tuple(("turn", i + 1, i, turn + 2) for i in range(1, n - 1)))
            self.assertEqual((field.arrows(""), opened_nodes(field, "")), ((None,) * n, ()))
