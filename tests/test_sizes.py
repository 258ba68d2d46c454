"""[3]: the greatest sizes that may be passed, for what has landed."""

import itertools
import random
import unittest

from maypoint.books import book_of, check_past
from maypoint.errors import BadOctets, BadPast
from maypoint.numbers import check_number, is_below, least_of, number_between
from maypoint.rings import hand_ways, handings, ring_in
from maypoint.rows import Row
from maypoint.stretches import key_of
from maypoint.wire import decode_letter, decode_stream, encode_letter, encode_stream
from maypoint.worlds import run_deeds
from tests import chance as drawn
from tests import plain
from tests.support import outcome, raised, returned

GREAT = 10 ** 12 + 100


class Sizes(unittest.TestCase):

    def test_numbers(self):
        low = (GREAT,) + (-GREAT,) * 138 + (0,)
        high = (GREAT,) + (-GREAT,) * 137 + (1 - GREAT, 0)
        self.assertIs(check_number(low), low)
        self.assertTrue(is_below(low, high))
        self.assertEqual(least_of((None, high) * 29 + (low, high)), low)
        self.assertEqual(number_between(low, high, 31), low + (0, 31))
        self.assertEqual(number_between(low, None, 31), (GREAT + 1, 31))
        self.assertEqual(key_of("", low), (6,) + low)

    def test_octets(self):
        octets = (1, 127) + (255,) * 397 + (1,)
        letter = ("ack", "111111", 2 * 128 ** 397 - 1)
        self.assertEqual(encode_letter(letter), octets)
        self.assertEqual(decode_letter(octets), letter)
        self.assertEqual(outcome(decode_letter, octets[:-1]), raised(BadOctets(399)))
        self.assertEqual(outcome(decode_letter, octets[:-1] + (0,)), raised(BadOctets(399)))
        entry = 128 ** 190
        letter = ("report", "", 1, (entry, -entry, 31))
        self.assertEqual(decode_letter(list(encode_letter(letter))), letter)
        self.assertEqual(decode_stream(encode_stream((letter,) * 20)), ((letter,) * 20, ()))
        self.assertEqual(outcome(decode_stream, (255,) * 400), raised(BadOctets(0)))
        self.assertEqual(outcome(decode_stream, (1, 1) + (255,) * 398), returned(((), (1, 1) + (255,) * 398)))

    def test_rows(self):
        row, model = Row(), plain.PlainRow()
        for at in range(60):
            number = (10 ** 12,) + (10 ** 12 * (at - 30),) * 10 + (7,)
            row.told(10 ** 12 - 60 + at, number)
            model.told(10 ** 12 - 60 + at, number)
        row.acked(10 ** 12 - 30)
        model.acked(10 ** 12 - 30)
        self.assertEqual(outcome(row.state), returned(model.state()))
        self.assertEqual(len(row.state()[2]), 30)

    def test_pasts(self):
        chance = random.Random(3)
        past = drawn.past(chance, plain.may_come, 60, (0, 1, 5, 9, 30, 31, 7))
        self.assertIs(check_past(past), past)
        events = list(past[1])
        for a in plain.ADDRESSES:
            self.assertEqual(book_of(past).let(a), tuple(m for m in plain.near(events) if plain.may(events, a, m)))
        number = (10 ** 12,) + (-10 ** 12,) * 8 + (1,)
        past = (2, (("rise", 1), ("heard", 1, "010111", 10 ** 12, number)))
        self.assertEqual(book_of(past).l("010111", 1), (0,) + number)
        self.assertEqual(outcome(check_past, (2, past[1] + (past[1][1],))), raised(BadPast(2)))

    def test_worlds(self):
        chance = random.Random(4)
        names = (0, 1, 2, 3, 28, 29, 30, 31)
        deeds = [("rise", one, other) for one, other in itertools.combinations(names, 2)]
        serial = {}
        while len(deeds) < 1200:
            one, other = chance.sample(names, 2)
            serial[one, other] = serial.get((one, other), 0) + 1
            deeds.append(("tell", one, other, "", serial[one, other], (chance.randrange(9), one)))
            deeds.append(("come", one, other, ""))
            deeds.append(("ack", other, one, "", serial[one, other]))
            deeds.append(("back", one, other, ""))
        world = run_deeds(tuple(deeds))
        self.assertEqual((world.names(), len(world.links()), world.under_way()), (names, 28, ()))
        # Nothing but the newest counts any more, so all that is let can be read off it.
        newest = {deed[1:3]: deed[5] for deed in deeds if deed[0] == "tell"}
        told = []
        for i in names:
            up = [x for x in names if plain.below(newest.get((i, x)), newest.get((x, i)))]
            told += [(i, m) for m in names if (m, i) in newest
                     and all(newest[m, i] < newest[i, x] for x in up)]
        self.assertEqual(handings(world, "000000"), tuple(told))
        self.assertIsNone(ring_in(handings(world, "000000")))
        self.assertGreater(max(hand_ways(world, "000000", name) for name in names), 1)
