"""[58] to [60]."""

import random
import unittest

from maypoint.calm import at_rest, distances, prices_hold, rest_bound
from maypoint.fields import Field, one_round
from maypoint.waits import held_reports
from tests import bare, shapes
from tests.support import any_values, outcome, returned, untouched


def holds(field, p, rows):
    """[59], condition by condition."""
    n = len(field.arrows(""))
    if type(rows) is not tuple or len(rows) != n:
        return False
    if any(price is not None and (type(price) is not int or price < 0) for price in rows):
        return False
    steps = [(i, j, cost) for i, j, cost, back in field.links()] + [(j, i, back) for i, j, cost, back in field.links()]
    for i in range(n):
        made = [None if rows[j] is None else rows[j] + cost for one, j, cost in steps if one == i]
        numbers = [price for price in made if price is not None]
        if field.node(i).number(p) == (0, i):
            if rows[i] != 0:
                return False
        elif rows[i] is None:
            if numbers:
                return False
        elif rows[i] not in numbers or any(price < rows[i] for price in numbers):
            return False
    return True


def still_fields(seed, many, most=9, sizes=(1, 2, 3, 4, 5, 6, 7, 8)):
    """Fields in which links have risen and nothing more."""
    chance = random.Random(seed)
    for _ in range(many):
        n = chance.choice(sizes)
        homes = shapes.homes_by_chance(chance, n)
        field = shapes.field_by_chance(chance, n, chance.choice(shapes.SHAPES), homes, chance.choice((2, most, 1000)))
        for link in chance.sample(field.links(), len(field.links()) // chance.choice((2, 3, 10))):
            field.do(("fall",) + link[:2])
        yield chance, n, field


class Distances(unittest.TestCase):

    def test_found_in_another_way(self):
        met = {}
        for chance, n, field in still_fields(58, 300):
            for p in ("", "0", "01", "11"):
                told = bare.far(field, p)
                self.assertEqual(outcome(distances, field, p), returned(told))
                self.assertEqual(outcome(rest_bound, field, p), returned(bare.bound(field, p)))
                kind = "none" if None not in told else "all" if set(told) == {None} else "some"
                met[kind] = met.get(kind, 0) + 1
        self.assertGreater(min(met.values()), 60, met)

    def test_costs_that_are_unlike_the_two_ways(self):
        field = Field((("",), (), (), ()))
        for deed in (("rise", 0, 1, 1, 100), ("rise", 1, 2, 3, 1), ("rise", 2, 0, 7, 2), ("rise", 3, 1, 1, 50)):
            field.do(deed)
        self.assertEqual(outcome(distances, field=field, stretch=""), returned((0, 10, 7, 11)))
        field.do(("turn", 1, 2, 200))
        self.assertEqual(distances(field, ""), (0, 100, 7, 101))
        field.do(("fall", 2, 0))
        self.assertEqual(distances(field, ""), (0, 100, 101, 101))
        field.do(("fall", 1, 0))
        self.assertEqual(distances(field, ""), (0, None, None, None))

    def test_small_fields(self):
        self.assertEqual((distances(Field(()), ""), rest_bound(Field(()), ""), at_rest(Field(()))), ((), 0, True))
        field = Field((("",), (), ("0",)))
        self.assertEqual([distances(field, p) for p in ("", "0", "1")], [(0, None, None), (None, None, 0), (None,) * 3])
        self.assertEqual([rest_bound(field, p) for p in ("", "0", "1")], [0, 0, 0])
        self.assertIs(prices_hold(Field(()), "", ()), True)

    def test_bounds_of_each_kind_of_part(self):
        field = Field((("",), (), (), (), (), (), ()))
        self.assertEqual(outcome(rest_bound, field=field, stretch=""), returned(0))
        field.do(("rise", 1, 2, 3, 3))
        # A part without a house: 2 * 2 + 4.
        self.assertEqual(rest_bound(field, ""), 8)
        field.do(("rise", 3, 4, 900, 900))
        field.do(("rise", 4, 5, 900, 900))
        self.assertEqual(rest_bound(field, ""), 10)
        field.do(("rise", 6, 0, 5, 5))
        # One with a house: 5 // 5 + 5 * 2 + 4.
        self.assertEqual(rest_bound(field, ""), 15)
        for cost, told in ((1, 19), (2, 16), (3, 15), (6, 15)):
            # The least cost, either way; what a link of another part costs does not matter.
            field.do(("turn", 0, 6, cost))
            field.do(("turn", 1, 2, 1))
            self.assertEqual(rest_bound(field, ""), told)
        field.do(("turn", 6, 0, 1000))
        self.assertEqual(rest_bound(field, ""), 1000 // 6 + 14)
        self.assertEqual(rest_bound(field, "0"), 10)

    def test_at_rest(self):
        for chance, n, field in shapes.instants(59, 30, 8):
            self.assertEqual(outcome(at_rest, field=field), returned(field.under_way() == ()))
            for _ in range(40):
                one_round(field, 0, ())
            self.assertEqual(outcome(at_rest, field), returned(True))


class Prices(unittest.TestCase):

    def same(self, field, p, rows):
        told = holds(field, p, rows)
        self.assertEqual(outcome(prices_hold, field, p, rows), returned(told), (field.links(), p, rows))
        # The theorem: they hold exactly if they are the distances.
        self.assertEqual(told, repr(rows) == repr(bare.far(field, p)))

    def test_distances_with_one_entry_changed(self):
        for chance, n, field in still_fields(60, 120):
            for p in ("", "0"):
                rows = bare.far(field, p)
                self.same(field, p, rows)
                for at in range(n):
                    price = rows[at]
                    more = (0, 1, 5, 10 ** 12, -1, None, True, False, "0", (0,)) if price is None else (
                        price + 1, price - 1, -price - 1, 0, None, price == 1, [price], str(price), 10 ** 12)
                    for value in more:
                        self.same(field, p, rows[:at] + (value,) + rows[at + 1:])
                for wrong in (rows[:-1], rows + (None,), rows + (0,), rows + rows[:1], list(rows), (rows,), rows[::-1],
                              tuple(None for _ in rows), tuple(0 for _ in rows)):
                    self.same(field, p, wrong)

    def test_parts_changed_as_a_whole(self):
        """A part without a house that has numbers, which agree with one another but for one node; and the other way round."""
        for chance, n, field in still_fields(61, 150, 3, (3, 4, 6, 8)):
            for p in ("", "0"):
                rows = bare.far(field, p)
                for part in bare.parts(field):
                    for value in (None, 0, 1, 7):
                        self.same(field, p, tuple(value if name in part else price for name, price in enumerate(rows)))
                    self.same(field, p, tuple(price if price is None or name not in part else price + 1 for name, price in enumerate(rows)))

    def test_any_value(self):
        field = Field((("",), (), ()))
        field.do(("rise", 0, 1, 1, 4))
        for value in any_values():
            self.assertEqual(untouched(prices_hold, field, "", value)[0], returned(holds(field, "", value)))
            for at, rows in enumerate(((value, 4, None), (0, value, None), (0, 4, value))):
                self.same(field, "", rows)
        self.assertEqual(outcome(prices_hold, rows=(0, 4, None), field=field, stretch=""), returned(True))
        self.assertIs(prices_hold(field, "", (False, 4, None)), False)
        self.assertIs(prices_hold(field, "", tuple(range(140))), False)

    def test_rows_of_every_kind_in_a_small_field(self):
        field = Field((("",), (), (), ()))
        for deed in (("rise", 0, 1, 1, 2), ("rise", 1, 2, 1, 1)):
            field.do(deed)
        values = (None, 0, 1, 2, 3)
        met = [rows for rows in ((a, b, c, d) for a in values for b in values for c in values for d in values) if prices_hold(field, "", rows)]
        self.assertEqual(met, [(0, 2, 3, None)])


class Rest(unittest.TestCase):

    def at_rest(self, field, n):
        """All that [60] says of a field at rest."""
        self.assertEqual((field.under_way(), held_reports(field)), ((), ()))
        costs = {}
        for i, j, cost, back in field.links():
            costs[i, j], costs[j, i] = cost, back
        for p in shapes.stretches_told(field) + ["", "0", "01"]:
            far = distances(field, p)
            for i in range(n):
                node = field.node(i)
                target = node.target(p)
                self.assertEqual(node.number(p), None if far[i] is None else (far[i], i))
                self.assertEqual(target is None, far[i] is None or node.number(p) == (0, i))
                if target is not None:
                    self.assertEqual(far[target] + costs[i, target], far[i])

    def test_at_rest_in_time(self):
        late = 0
        for seed in range(4):
            for chance, n, field in shapes.instants(600 + seed, 16, 3, falls=0.08):
                for _ in range(40):
                    outcome(field.do, shapes.deed_by_chance(chance, field, n, 0.08, 0.4))
                homes = {p for own in bare.homes_of(field) for p in own}
                bound = max([rest_bound(field, p) for p in homes], default=0)
                rounds = 0
                for turn in range(bound):
                    rounds += not at_rest(field)
                    one_round(field, chance.randrange(100), ())
                late = max(late, rounds)
                self.assertIs(at_rest(field), True)
                self.at_rest(field, n)
                self.assertEqual(one_round(field, 0, ()), 0)
                self.assertIs(at_rest(field), True)
        self.assertGreater(late, 8)

    def test_false_numbers_are_gone_in_time(self):
        """A cheap ring cut off from a far house: what was told climbs by the least cost each round at most."""
        for n in range(3, 9):
            field = Field((("",),) + ((),) * (n - 1))
            for i in range(1, n - 1):
                field.do(("rise", i, i + 1, 1, 1))
            field.do(("rise", 0, 1, 1, 1))
            field.do(("rise", 0, n - 1, 1000, 1000))
            while field.under_way():
                one_round(field, 0, ())
            field.do(("fall", 0, 1))
            self.assertEqual(rest_bound(field, ""), 1000 + n - 2 + 5 * n + 4)
            for turn in range(rest_bound(field, "")):
                if not at_rest(field):
                    one_round(field, turn, ())
            self.at_rest(field, n)

    def test_without_a_house(self):
        for chance, n, field in still_fields(62, 40):
            bared = Field(((),) * n)
            for i, j, cost, back in field.links():
                bared.do(("rise", i, j, cost, back))
            self.assertIs(at_rest(bared), True)
            self.at_rest(bared, n)
