"""[3]: the greatest sizes that may be passed, for what has landed."""

import itertools
import random
import unittest

from maypoint.books import book_of, check_past
from maypoint.calm import at_rest, distances, prices_hold, rest_bound
from maypoint.dark import arrow_chain, dark_bound, houseless_parts, opened_nodes
from maypoint.errors import BadOctets, BadPast, Refused
from maypoint.fields import Field, one_round
from maypoint.numbers import check_number, is_below, least_of, number_between
from maypoint.rings import hand_order, hand_ways, handings, ring_in
from maypoint.rows import Row
from maypoint.stops import Keeper, check_story, stop_net, stop_net_serves, story_book, story_fault
from maypoint.stretches import key_of, left_out
from maypoint.tables import Table, least_table, node_table, table_prices_hold, travel
from maypoint.waits import held_reports, wait_row, wait_row_serves
from maypoint.wire import decode_letter, decode_stream, encode_letter, encode_stream
from maypoint.worlds import run_deeds
from tests import chance as drawn
from tests import plain, shapes, stories
from tests.support import outcome, raised, returned

GREAT = 10 ** 12 + 100


class Sizes(unittest.TestCase):

    def test_numbers(self):
        low = (GREAT,) + (-GREAT,) * 138 + (0,)
        high = (GREAT,) + (-GREAT,) * 137 + (1 - GREAT, 0)
        self.assertIs(check_number(low), low)
        self.assertTrue(is_below(low, high))
        self.assertEqual(least_of((None, high) * 29 + (low, high)), low)
        self.assertEqual(number_between(low, high, 31), low + (0, 31))
        self.assertEqual(number_between(low, None, 31), (GREAT + 1, 31))
        self.assertEqual(key_of("", low), (6,) + low)

    def test_octets(self):
        octets = (1, 127) + (255,) * 397 + (1,)
        letter = ("ack", "111111", 2 * 128 ** 397 - 1)
        self.assertEqual(encode_letter(letter), octets)
        self.assertEqual(decode_letter(octets), letter)
        self.assertEqual(outcome(decode_letter, octets[:-1]), raised(BadOctets(399)))
        self.assertEqual(outcome(decode_letter, octets[:-1] + (0,)), raised(BadOctets(399)))
        entry = 128 ** 190
        letter = ("report", "", 1, (entry, -entry, 31))
        self.assertEqual(decode_letter(list(encode_letter(letter))), letter)
        self.assertEqual(decode_stream(encode_stream((letter,) * 20)), ((letter,) * 20, ()))
        self.assertEqual(outcome(decode_stream, (255,) * 400), raised(BadOctets(0)))
        self.assertEqual(outcome(decode_stream, (1, 1) + (255,) * 398), returned(((), (1, 1) + (255,) * 398)))

    def test_rows(self):
        row, model = Row(), plain.PlainRow()
        for at in range(60):
            number = (10 ** 12,) + (10 ** 12 * (at - 30),) * 10 + (7,)
            row.told(10 ** 12 - 60 + at, number)
            model.told(10 ** 12 - 60 + at, number)
        row.acked(10 ** 12 - 30)
        model.acked(10 ** 12 - 30)
        self.assertEqual(outcome(row.state), returned(model.state()))
        self.assertEqual(len(row.state()[2]), 30)

    def test_pasts(self):
        chance = random.Random(3)
        past = drawn.past(chance, plain.may_come, 60, (0, 1, 5, 9, 30, 31, 7))
        self.assertIs(check_past(past), past)
        events = list(past[1])
        for a in plain.ADDRESSES:
            self.assertEqual(book_of(past).let(a), tuple(m for m in plain.near(events) if plain.may(events, a, m)))
        number = (10 ** 12,) + (-10 ** 12,) * 8 + (1,)
        past = (2, (("rise", 1), ("heard", 1, "010111", 10 ** 12, number)))
        self.assertEqual(book_of(past).l("010111", 1), (0,) + number)
        self.assertEqual(outcome(check_past, (2, past[1] + (past[1][1],))), raised(BadPast(2)))

    def test_worlds(self):
        chance = random.Random(4)
        names = (0, 1, 2, 3, 28, 29, 30, 31)
        deeds = [("rise", one, other) for one, other in itertools.combinations(names, 2)]
        serial = {}
        while len(deeds) < 1200:
            one, other = chance.sample(names, 2)
            serial[one, other] = serial.get((one, other), 0) + 1
            deeds.append(("tell", one, other, "", serial[one, other], (chance.randrange(9), one)))
            deeds.append(("come", one, other, ""))
            deeds.append(("ack", other, one, "", serial[one, other]))
            deeds.append(("back", one, other, ""))
        world = run_deeds(tuple(deeds))
        self.assertEqual((world.names(), len(world.links()), world.under_way()), (names, 28, ()))
        # Nothing but the newest counts any more, so all that is let can be read off it.
        newest = {deed[1:3]: deed[5] for deed in deeds if deed[0] == "tell"}
        told = []
        for i in names:
            up = [x for x in names if plain.below(newest.get((i, x)), newest.get((x, i)))]
            told += [(i, m) for m in names if (m, i) in newest
                     and all(newest[m, i] < newest[i, x] for x in up)]
        self.assertEqual(handings(world, "000000"), tuple(told))
        self.assertIsNone(ring_in(handings(world, "000000")))
        self.assertGreater(max(hand_ways(world, "000000", name) for name in names), 1)

    def test_fields(self):
        """Eight nodes, all links among them, 500 deeds and 200 rounds; all that is asked of a field, again and again."""
        chance = random.Random(5)
        homes = tuple(tuple(p for p in plain.STRETCHES if chance.random() < 0.3) for _ in range(8))
        field, left = Field(homes), 500
        for i, j in itertools.combinations(range(8), 2):
            field.do(("rise", i, j, chance.randrange(1, 1001), chance.randrange(1, 1001)))
            left -= 1
        for turn in range(200):
            between = [shapes.deed_by_chance(chance, field, 8, 0.02, 0.6) for _ in range(min(left, chance.randrange(9)))]
            left -= len(between)
            one_round(field, 10 ** 6 - turn, tuple(between))
            self.asked(field)
        self.assertEqual(left, 0)
        while not at_rest(field):
            one_round(field, 0, ())
        self.assertEqual((held_reports(field), [opened_nodes(field, p) for p in plain.STRETCHES]), ((), [()] * 7))

    def asked(self, field):
        for x, i, p in held_reports(field):
            self.assertIs(wait_row_serves(field, x, i, p, wait_row(field, x, i, p)), True)
        for p in plain.STRETCHES:
            self.assertIs(prices_hold(field, p, distances(field, p)), True)
            self.assertGreaterEqual(rest_bound(field, p), 0)
            self.assertEqual(len({name for part in houseless_parts(field, p) for name in part}) < 8, any(
                field.node(i).number(p) == (0, i) for i in range(8)))
            self.assertLessEqual(max(len(arrow_chain(field, p, i)) for i in range(8)), 8)
        for i in range(8):
            table = node_table(field, i)
            self.assertEqual(travel(field, i, "010111")[1] == "dropped" and len(travel(field, i, "010111")[0]) == 1,
                             table.longest("010111") is None)

    def test_tables(self):
        chance = random.Random(6)
        stretches = ["".join(signs) for many in range(7) for signs in itertools.product("01", repeat=many)]
        table = Table(tuple((p, chance.choice((None, 0, 1, 5, 31))) for p in stretches))
        rows, prices = least_table(table)
        self.assertIs(table_prices_hold(table, rows, prices), True)
        self.assertIs(table_prices_hold(table, table.listed() + ((),) * 13, prices), False)
        self.assertIs(table_prices_hold(table, rows, ((), ) * 140), False)
        self.assertIs(table_prices_hold(table, rows, tuple((p, 10 ** 12, tuple(range(32))) for p in stretches) * 2), False)

    def test_stretches(self):
        addresses = ["".join(signs) for signs in itertools.product("01", repeat=6)]
        for lacking in addresses[::9]:
            others = tuple(a for a in addresses if a != lacking) + ("01010",) * 7
            held = "01010" in lacking[:5]
            self.assertEqual((len(others), left_out("", others)), (70, None if held else lacking))
        self.assertIsNone(left_out("", tuple(addresses) + ("",) * 6))

    def test_pairs(self):
        """Sixty pairs: rows of all names, and a ring of all of them."""
        row = tuple((one, one + 1) for one in range(31)) + tuple((one, one + 2) for one in range(29))
        self.assertEqual((len(row), ring_in(row), hand_order(row[::-1])), (60, None, tuple(range(32))))
        ring = row[:59] + ((31, 0),)
        self.assertEqual(outcome(hand_order, ring), raised(Refused(ring)))
        found = ring_in(ring)
        self.assertTrue(all(pair in ring for pair in zip(found, found[1:] + found[:1])))

    def test_stories(self):
        """Two hundred events, with rows written ahead and late, and the first fault at the last of them."""
        for seed in (7, 8):
            course = None
            while course is None:
                course = stories.with_fault(random.Random(seed), 150, others=8)
                seed += 100
            story = stories.story_of(course)
            while len(story[1]) < 199:
                story = (story[0], (("flush",),) + story[1])
            self.assertIs(check_story(story), story)
            at = len(story[1]) - 1
            self.assertEqual((story_fault(story)[0], story_fault((story[0], story[1][:-1]))), (at, None))
            self.assertEqual(stories.asked(story_book(story)), stories.asked(course.own))
            if story[1][at][0] != "told" or story[1][at][4] is not None:
                self.assertIs(stop_net_serves(story, at, stop_net(story, at)), True)

    def test_keepers(self):
        chance = random.Random(9)
        keeper, names = Keeper(2), range(3, 10)
        for x in names:
            keeper.do(("rise", x))
        serial = {}
        while len(keeper.story()[1]) < 195:
            x, p = chance.choice(names), chance.choice(plain.STRETCHES)
            serial[x, p] = max(serial.get((x, p), 0), 10 ** 12 - 600) + 1
            number = (10 ** 12,) + (chance.choice((-1, 1)) * 10 ** 12,) * 8
            keeper.do(("told", x, p, serial[x, p], number + (2,)))
            keeper.do(("heard", x, p, serial[x, p], number + (x,)))
            keeper.do(("acks", x, p, serial[x, p]))
        self.assertIsNone(story_fault(keeper.story()))
        rows = [event for event in keeper.story()[1] if event[0] == "write"]
        keeper.do(("stop", len(rows)))
        self.assertIsNone(story_fault(keeper.story()))
        self.assertEqual(keeper.book().near(), tuple(names))

    def test_great_bounds(self):
        self.assertEqual(dark_bound(10 ** 9), 2 * 10 ** 9 + 2)
