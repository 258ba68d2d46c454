"""[61] to [64]."""

import itertools
import random
import unittest

from maypoint.calm import at_rest, distances
from maypoint.dark import dark_bound
from maypoint.fields import Field, one_round
from maypoint.tables import Table, least_table, node_table, table_prices_hold, travel
from tests import bare, plain, shapes
from tests.support import any_values, has_list, outcome, returned, untouched

STRETCHES = ["".join(signs) for many in range(7) for signs in itertools.product("01", repeat=many)]
ADDRESSES = STRETCHES[63:]
ANSWERS = list(range(32)) + [None]


def longest(rows, address):
    """[61], by the rows."""
    held = [row for row in rows if address.startswith(row[0])]
    return max(held, key=lambda row: len(row[0]))[1] if held else None


def chance_rows(chance, many=None, names=(0, 1, 5, 31)):
    """Rows of a table: any stretches, or such as lie near one another."""
    many = chance.choice((0, 1, 3, 8, 20, 60, 127)) if many is None else many
    stretches = chance.sample(STRETCHES, many)
    few = chance.sample(names, chance.randrange(1, len(names) + 1))
    return tuple((p, chance.choice(few + [None])) for p in stretches)


def is_row(row):
    return (type(row) is tuple and len(row) == 2 and plain.is_stretch(row[0]) and (row[1] is None or plain.is_name(row[1])))


def is_price(price):
    if type(price) is not tuple or len(price) != 3 or not plain.is_stretch(price[0]) or type(price[1]) is not int or price[1] < 0:
        return False
    answers = price[2]
    if type(answers) is not tuple or not all(answer is None or plain.is_name(answer) for answer in answers):
        return False
    names = [answer for answer in answers if answer is not None]
    return sorted(set(names)) == names and answers in (tuple(names), tuple(names) + (None,))


def holds(table, rows, prices):
    """[62], condition by condition; `table` is the rows of the table."""
    if type(rows) is not tuple or not all(is_row(row) for row in rows) or len({row[0] for row in rows}) < len(rows):
        return False
    if any(longest(rows, a) != longest(table, a) for a in ADDRESSES):
        return False
    if type(prices) is not tuple or not all(is_price(price) for price in prices):
        return False
    within = {p: {longest(table, a) for a in ADDRESSES if a.startswith(p)} for p in STRETCHES}
    if sorted(price[0] for price in prices) != sorted(p for p in STRETCHES if len(within[p]) > 1):
        return False
    told = {p: (number, answers) for p, number, answers in prices}

    def price(u, p):
        if p in told:
            return told[p][0] if u in told[p][1] else told[p][0] + 1
        return 0 if within[p] == {u} else 1

    if any(price(u, p) > price(u, p + "0") + price(u, p + "1") for p in told for u in ANSWERS):
        return False
    return price(None, "") == len(rows)


class Tables(unittest.TestCase):

    def test_all_addresses(self):
        chance = random.Random(61)
        for many in list(range(0, 30)) + [64, 100, 126, 127] * 3:
            rows = chance_rows(chance, many, tuple(range(32)))
            table = Table(rows=rows)
            self.assertEqual(outcome(table.listed), returned(tuple(sorted(rows, key=lambda row: row[0]))))
            for address in ADDRESSES:
                self.assertEqual(outcome(table.longest, address=address), returned(longest(rows, address)))
            self.assertFalse(has_list(table.listed()))

    def test_edges(self):
        self.assertEqual((Table(()).listed(), {Table(()).longest(a) for a in ADDRESSES}), ((), {None}))
        table = Table((("0", None), ("", 0)))
        self.assertEqual((table.longest("000000"), table.longest("100000"), table.listed()), (None, 0, (("", 0), ("0", None))))
        table = Table((("000000", 31), ("00000", None), ("0", 0)))
        self.assertEqual([table.longest(a) for a in ("000000", "000001", "000010", "100000")], [31, None, 0, None])

    def test_the_rows_are_the_tables_own(self):
        rows = (("1", 4), ("", 3))
        table, other = Table(rows), Table(rows[:1])
        self.assertEqual((table.listed(), other.listed(), rows), ((("", 3), ("1", 4)), (("1", 4),), (("1", 4), ("", 3))))
        least_table(table)
        self.assertEqual(table.listed(), (("", 3), ("1", 4)))


def changed_row(chance, row):
    p, to = row
    return chance.choice(((p, None if to is not None else 0), (p, 7), (p + "0", to), (p[:-1], to), (p, to, to), (p,), [p, to],
                          (p, (to or 0) + 32), (p, True), (p, -1), (to, p), (p + "x", to), None))


def changed_rows(chance, rows):
    """Rows of which one part is another one."""
    at = chance.randrange(len(rows)) if rows else 0
    free = [p for p in STRETCHES if p not in [row[0] for row in rows]]
    more = rows + ((chance.choice(free), chance.choice((None, 0, 1))),) if free else rows
    return chance.choice((
        rows[:at] + rows[at + 1:], rows + rows[at:at + 1], rows[::-1], list(rows), (rows,), more, more, rows + (None,),
        rows[:at] + tuple(changed_row(chance, row) for row in rows[at:at + 1]) + rows[at + 1:],
        rows[:at] + tuple(changed_row(chance, row) for row in rows[at:at + 1]) + rows[at + 1:],
    ))


def changed_price(chance, price):
    p, number, answers = price
    at = chance.randrange(len(answers) + 1)
    return chance.choice((
        (p, number + 1, answers), (p, number - 1, answers), (p, number, answers[:at] + answers[at + 1:]), (p, number, ()),
        (p, number + 1, ()), (p, number - 1, ()), (p, number, answers[::-1]), (p, number, answers + answers[:1]), (p, number, (None,) + answers),
        (p, number, answers + (None,)), (p, number, tuple(sorted(set(answers) - {None} | {7})) + (None,) * (None in answers)),
        (p, number, tuple(range(32)) + (None,)), (p, number - 1, tuple(range(32)) + (None,)), (p + "0", number, answers), (p[:-1], number, answers),
        (p, number == 1, answers), (p, number, list(answers)), [p, number, answers], (p, number), (p, number, answers, ()), (p, answers, number),
        (p, number, answers[:at] + (True,)), (p, number, answers[:at] + (32,)), (p, None, answers), (p, str(number), answers), None,
    ))


def changed_prices(chance, prices):
    """Prices of which one part is another one."""
    at = chance.randrange(len(prices)) if prices else 0
    one = tuple(changed_price(chance, price) for price in prices[at:at + 1])
    return chance.choice((
        prices[:at] + prices[at + 1:], prices + prices[at:at + 1], prices[::-1], list(prices), prices + ((chance.choice(STRETCHES), 0, (None,)),),
        prices + (None,)) + (prices[:at] + one + prices[at + 1:],) * 12)


class Least(unittest.TestCase):

    def same(self, rows, told, prices):
        result = holds(rows, told, prices)
        self.assertEqual(outcome(table_prices_hold, Table(rows), told, prices), returned(result), (rows, told, prices))
        return result

    def tables(self, seed, many, sizes=(0, 1, 2, 4, 8, 20, 60, 127)):
        chance = random.Random(seed)
        for _ in range(many):
            rows = chance_rows(chance, chance.choice(sizes), chance.choice(((3,), (0, 1), (0, 1, 5, 31))))
            yield chance, rows, least_table(Table(rows))

    def test_what_is_told_holds(self):
        for chance, rows, told in self.tables(62, 80):
            self.assertEqual((len(told), has_list(told)), (2, False))
            self.assertTrue(self.same(rows, *told))
            self.assertLessEqual(len(told[0]), len(rows))
            # Any order of rows and of prices.
            for _ in range(3):
                self.assertTrue(self.same(rows, tuple(chance.sample(told[0], len(told[0]))), tuple(chance.sample(told[1], len(told[1])))))

    def test_against_all_small_tables(self):
        """The fewest rows of all tables of stretches of two signs at most."""
        places, fewest, seen = STRETCHES[:7], {}, {}
        for answers in itertools.product((-1, None, 0, 9), repeat=7):
            rows = tuple((p, to) for p, to in zip(places, answers) if to != -1)
            told = tuple(longest(rows, a) for a in ("000000", "010000", "100000", "110000"))
            if len(rows) < fewest.get(told, 8):
                fewest[told] = len(rows)
            seen[told] = rows
        self.assertEqual(len(fewest), 81)
        for told, rows in seen.items():
            least = least_table(Table(rows))
            self.assertEqual(len(least[0]), fewest[told], rows)
            self.assertTrue(self.same(rows, *least))
            for other in [told] + list(seen)[::9]:
                self.assertEqual(table_prices_hold(Table(seen[other]), *least), other == told)

    def test_edges(self):
        for rows in ((), (("", None),), (("01", None), ("010101", None))):
            self.assertEqual(least_table(Table(rows)), ((), ()))
            self.assertTrue(self.same(rows, (), ()))
            self.assertFalse(self.same(rows, (("", None),), ()))
        for rows in ((("", 5),), (("0", 5), ("1", 5)), tuple((a, 5) for a in ADDRESSES)):
            self.assertEqual(outcome(least_table, table=Table(rows)), returned(((("", 5),), ())))
            self.assertFalse(self.same(rows, (("0", 5), ("1", 5)), ()))
        # 64 unlike answers there are not, but 33; every other address has one of its own.
        rows = tuple((a, at // 2) for at, a in enumerate(ADDRESSES) if at % 2)
        least = least_table(table=Table(rows=rows))
        self.assertTrue(self.same(rows, *least))
        self.assertEqual((len(least[0]), len(least[1])), (32, 63))

    def test_one_part_changed(self):
        met = {True: 0, False: 0}
        for chance, rows, (told, prices) in self.tables(63, 60, (1, 2, 4, 8, 20, 60)):
            for _ in range(10):
                met[self.same(rows, changed_rows(chance, told), prices)] += 1
            for _ in range(20):
                met[self.same(rows, told, changed_prices(chance, prices))] += 1
            met[self.same(rows, rows, prices)] += 1
        self.assertGreater(min(met.values()), 60, met)

    def test_more_rows_and_the_price_raised_with_them(self):
        """The number of rows raised together with the price of the whole: the halves don't bear it."""
        for chance, rows, (told, prices) in self.tables(64, 40, (2, 4, 8, 20)):
            free = [p for p in STRETCHES if len(p) == 6 and p not in [row[0] for row in told]]
            more = told + ((free[0], longest(told, free[0])),)
            self.assertFalse(self.same(rows, more, prices))
            raised = tuple((p, number + (p == ""), answers) for p, number, answers in prices)
            self.assertFalse(self.same(rows, more, raised))
            self.assertFalse(self.same(rows, more, tuple((p, number + 1, answers) for p, number, answers in prices)))

    def test_another_table(self):
        for chance, rows, least in self.tables(65, 60, (1, 2, 4, 8)):
            other = chance_rows(chance, 3, (0, 1))
            self.assertEqual(self.same(other, *least), all(longest(rows, a) == longest(other, a) for a in ADDRESSES))
            if least[0]:
                # One address of another answer.
                a = chance.choice(ADDRESSES)
                self.assertFalse(self.same(tuple(row for row in rows if row[0] != a) + ((a, 17),), *least))

    def test_other_prices_of_the_same_rows(self):
        """Reckoned by hand: those that are no higher than their halves bear, and those that are."""
        rows = (("", 3), ("1", 4), ("10", None), ("101", 3), ("11", 4))
        told = (("", 3), ("100", None), ("11", 4))
        for prices, result in (
            ((("", 2, (3,)), ("1", 2, (3, 4, None)), ("10", 1, (3, None))), True), ((("", 3, (None,)), ("1", 2, (3, 4, None)), ("10", 1, (3, None))), False),
            ((("", 2, ()), ("1", 2, (3, 4, None)), ("10", 1, (3, None))), False), ((("", 3, ()), ("1", 2, (3, 4, None)), ("10", 1, (3, None))), False),
            ((("", 2, (3,)), ("1", 2, (3, 4)), ("10", 1, (3, None))), False), ((("", 2, (3,)), ("1", 1, ()), ("10", 1, (3, None))), True),
            ((("", 2, (3,)), ("1", 2, (3, 4, 17, None)), ("10", 1, (3, None))), True), ((("", 2, (3,)), ("1", 2, (3, 4, None)), ("10", 1, (3, 17, None))), False),
            ((("", 2, (3, 17)), ("1", 2, (3, 4, None)), ("10", 1, (3, None))), True), ((("", 2, (3,)), ("1", 2, (3, 4, None)), ("10", 0, ())), False),
            ((("", 2, (3,)), ("1", 2, (3, 4, None)), ("10", 0, (3, None))), False), ((("", 2, (3,)), ("1", 2, (3, 4, None)), ("10", 0, (3,))), False),
            ((("", 1, ()), ("1", 1, ()), ("10", 0, ())), False), ((("", 2, (3, 4)), ("1", 2, (3, 4, None)), ("10", 1, (3, None))), True),
        ):
            self.assertEqual(self.same(rows, told, prices), result, prices)

    def test_any_value(self):
        table = Table((("1", 4), ("", 3), ("10", None)))
        rows, prices = least_table(table)
        self.assertGreater(len(prices), 1)
        for value in any_values():
            self.assertEqual(untouched(table_prices_hold, table, value, prices)[0], returned(False))
            self.assertEqual(untouched(table_prices_hold, table, rows, value)[0], returned(False))
            for at in range(len(rows)):
                self.same(table.listed(), rows[:at] + (value,) + rows[at + 1:], prices)
                for place in range(2):
                    row = rows[at][:place] + (value,) + rows[at][place + 1:]
                    self.same(table.listed(), rows[:at] + (row,) + rows[at + 1:], prices)
            for at in range(len(prices)):
                self.same(table.listed(), rows, prices[:at] + (value,) + prices[at + 1:])
                for place in range(3):
                    price = prices[at][:place] + (value,) + prices[at][place + 1:]
                    self.same(table.listed(), rows, prices[:at] + (price,) + prices[at + 1:])
        self.assertEqual(outcome(table_prices_hold, prices=prices, rows=rows, table=table), returned(True))

    def test_true_is_no_name_and_no_number(self):
        rows = (("", 1), ("01", 0))
        told, prices = least_table(Table(rows))
        self.assertEqual((told, prices), ((("", 1), ("01", 0)), (("0", 1, (0, 1)), ("", 1, (1,)))))
        self.assertIs(table_prices_hold(Table(rows), told, prices), True)
        self.assertIs(table_prices_hold(Table(rows), (("", True), ("01", 0)), prices), False)
        self.assertIs(table_prices_hold(Table(rows), (("", 1), ("01", False)), prices), False)
        self.assertIs(table_prices_hold(Table(rows), told, (("0", True, (0, 1)), ("", 1, (1,)))), False)
        self.assertIs(table_prices_hold(Table(rows), told, (("0", 1, (False, 1)), ("", 1, (1,)))), False)
        self.assertIs(table_prices_hold(Table(rows), told, (("0", 1, (0, 1)), ("", 1, (True,)))), False)


class Letters(unittest.TestCase):

    addresses = ("000000", "010000", "011111", "100000", "110100")

    def test_by_a_plain_reading(self):
        met = {}
        for chance, n, field in shapes.instants(63, 45, 12, falls=0.08):
            before = field.deeds()
            for i in range(n):
                for a in self.addresses:
                    told = bare.travel(field, i, a)
                    self.assertEqual(outcome(travel, field, i, a), returned(told))
                    kind = (told[1], min(len(told[0]), 3))
                    met[kind] = met.get(kind, 0) + 1
            i = chance.randrange(n)
            self.assertEqual(outcome(node_table(field, i).listed), returned(bare.table_rows(field, i)))
            self.assertIsInstance(node_table(field=field, i=i), Table)
            self.assertEqual(field.deeds(), before)
        # Dropped at once and on the way, home at the first node and later.
        for kind in (("home", 1), ("home", 2), ("home", 3), ("dropped", 1), ("dropped", 2)):
            self.assertGreater(met.get(kind, 0), 5, met)

    def table_tells(self, field, i, address):
        """The first theorem at one node."""
        to = node_table(field, i).longest(address)
        nodes, end = travel(field, i, address)
        if to == i:
            self.assertEqual((nodes, end), ((i,), "home"))
        elif to is None:
            self.assertEqual((nodes, end), ((i,), "dropped"))
        else:
            self.assertEqual(nodes[1], to)
        return to

    def test_first_theorem(self):
        met = {}
        for chance, n, field in shapes.instants(64, 60, 15, falls=0.08):
            homes = bare.homes_of(field)
            for i in range(n):
                for a in self.addresses:
                    to = self.table_tells(field, i, a)
                    p = bare.goes_by(field, homes, i, [a[:many] for many in range(7)])
                    opened = [r for r in [a[:many] for many in range(7)] if bare.is_open(field, bare.bare(field), i, r)] if to is None else []
                    if p is not None and p not in homes[i]:
                        longer = [r for r in [a[:many] for many in range(len(p) + 1, 7)] if field.node(i).is_open(r)]
                        self.assertEqual(to is None, bool(longer))
                    kind = "home" if to == i else "gone" if opened and p is not None else "dropped" if to is None else "on"
                    met[kind] = met.get(kind, 0) + 1
        self.assertGreater(min(met.get(kind, 0) for kind in ("home", "gone", "dropped", "on")), 5, met)

    def test_an_open_node_under_a_house(self):
        """A row for an open stretch is left out if the longest shorter stretch that counts is one of the node's own."""
        for homes, listed in ((((), ("01",)), (("01", None),)), ((("",), ("01",)), (("", 0),)), ((("0",), ("01",)), (("0", 0),)),
                              ((("1", "011"), ("01",)), (("01", None), ("011", 0), ("1", 0)))):
            field = Field(homes + ((),))
            for deed in (("rise", 0, 1, 1, 1), ("rise", 0, 2, 1, 1)):
                field.do(deed)
            while field.under_way():
                one_round(field, 0, ())
            self.assertEqual(field.node(0).target("01"), 1)
            field.do(("fall", 0, 1))
            self.assertEqual(node_table(field, 0).listed(), listed)
            self.assertEqual(travel(field, 0, "010000")[1], "home" if "" in homes[0] or "0" in homes[0] else "dropped")

    def test_an_open_node_below_a_target_below_a_house(self):
        """The longest shorter stretch is one for which it has a target: the row stands."""
        field = Field((("",), ("01",), ("0",), ()))
        for deed in (("rise", 0, 1, 1, 1), ("rise", 0, 2, 1, 1), ("rise", 0, 3, 1, 1)):
            field.do(deed)
        while field.under_way():
            one_round(field, 0, ())
        field.do(("fall", 0, 1))
        self.assertEqual(node_table(field, 0).listed(), (("", 0), ("0", 2), ("01", None)))
        self.assertEqual((travel(field, 0, "010000"), travel(field, 0, "001000"), travel(field, 3, "110000")),
                         (((0,), "dropped"), ((0, 2), "home"), ((3, 0), "home")))

    def calm_fields(self, seed, many):
        """Fields 2 n + 2 rounds behind the last fall, while costs turn and links rise."""
        for chance, n, field in shapes.instants(seed, many, 2, sizes=(2, 3, 5, 8), falls=0.1):
            for _ in range(50):
                outcome(field.do, shapes.deed_by_chance(chance, field, n, 0.1, 0.3))
            for _ in range(dark_bound(n)):
                between = [shapes.deed_by_chance(chance, field, n, 0, 0.5) for _ in range(chance.choice((0, 5, 20)))]
                i, j = chance.sample(range(n), 2)
                one_round(field, chance.randrange(50), tuple(between + [("rise", i, j, 3, 4)] * chance.randrange(2)))
            yield chance, n, field

    def test_second_theorem(self):
        met = {True: 0, False: 0}
        for chance, n, field in self.calm_fields(65, 40):
            homes = bare.homes_of(field)
            for i in range(n):
                for a in self.addresses:
                    nodes, end = travel(field, i, a)
                    p = bare.goes_by(field, homes, i, [a[:many] for many in range(7)])
                    self.assertEqual((end == "home", end == "home" or len(nodes) == 1), (p is not None, True))
                    if p is not None:
                        self.assertTrue(any(a.startswith(r) and len(r) >= len(p) for r in homes[nodes[-1]]))
                    met[end == "home"] += 1
        self.assertGreater(min(met.values()), 50, met)

    def test_third_theorem(self):
        met = {True: 0, False: 0}
        for chance, n, field in self.calm_fields(66, 40):
            while not at_rest(field):
                one_round(field, 0, ())
            homes = bare.homes_of(field)
            costs = {}
            for i, j, cost, back in field.links():
                costs[i, j], costs[j, i] = cost, back
            for part in bare.parts(field):
                for i in part:
                    for a in self.addresses:
                        known = [a[:many] for many in range(7) if any(a[:many] in homes[j] for j in part)]
                        nodes, end = travel(field, i, a)
                        self.assertEqual(end == "home", bool(known))
                        met[bool(known)] += 1
                        if known:
                            p = max(known, key=len)
                            self.assertIn(p, homes[nodes[-1]])
                            self.assertEqual(sum(costs[pair] for pair in zip(nodes, nodes[1:])), distances(field, p)[i])
                        else:
                            self.assertEqual(nodes, (i,))
        self.assertGreater(min(met.values()), 100, met)
