"""[72] to [75]."""

import random
import re
import unittest

from maypoint.books import check_past
from maypoint.desk import Desk
from maypoint.errors import BadText
from tests import chance as drawn
from tests import plain
from tests.support import any_values, outcome, raised, returned
from tests.test_judges import serves

WHOLE, ENTRY = re.compile("0|[1-9][0-9]*"), re.compile("0|-?[1-9][0-9]*")

# The words of each kind of line, one sign for each; those of `deed` hang on its second word.
FORMS = {
    "node": "i", "rise": "r", "fall": "x", "told": "xpkn", "heard": "xpkn", "acks": "xpk", "backs": "xpk", "clear": "", "undo": "", "net": "ax",
    "near": "", "up": "a", "let": "a", "v": "ax", "l": "ax", "room": "ax", "may": "ax", "why": "ax", "event": "t", "show": "t", "judge": "axR",
}
DEEDS = {"rise": "ij", "fall": "ij", "tell": "ijpsN", "come": "ijp", "ack": "ijps", "back": "ijp"}


def number_of(word):
    """The number that a word says, or NONE; False if it says none."""
    if word == "none":
        return None
    entries = word.split(".")
    if not all(ENTRY.fullmatch(entry) for entry in entries):
        return False
    number = tuple(map(int, entries))
    return number if plain.is_number(number) else False


def word_of(part):
    return "none" if part is None else ".".join(map(str, part)) if type(part) is tuple else str(part)


def line_of(parts, names):
    """The words of an event or a deed."""
    words = [str(part) for part in parts[:1 + names]]
    return " ".join(words + [word_of(part) + "*" * (at == 0) for at, part in enumerate(parts[1 + names:])])


class PlainDesk:
    """[72] to [74], by the words; the run of a net is taken over from the desk that is asked."""

    def __init__(self):
        self.past, self.run, self.ahead = (0, ()), (), []

    def read(self, sign, word, ahead):
        """The value of a word, told by those ahead of it; False if it is not as told."""
        events, own = list(self.past[1]), self.past[0]
        if sign in "irjxkst" and not WHOLE.fullmatch(word):
            return False
        whole = int(word) if WHOLE.fullmatch(word) else None
        if sign in "irjx" and whole > 31:
            return False
        if sign == "i":
            return (whole,)
        if sign == "r":
            return whole != own and whole not in plain.near(events) and (whole,)
        if sign == "j":
            return whole != ahead[-1] and (whole,)
        if sign == "x":
            return whole in plain.near(events) and (whole,)
        if sign == "a":
            return bool(re.fullmatch("[01]{6}", word)) and (word,)
        if sign == "p":
            return bool(re.fullmatch("[01]{0,6}[*]", word)) and (word[:-1],)
        if sign == "s":
            return whole > 0 and (whole,)
        if sign == "k":
            kind, x, p = ahead
            event = (kind, x, p, whole) + (None,) * (kind in ("told", "heard"))
            return plain.may_come(own, events, event) and (whole,)
        if sign in "nN":
            number = number_of(word)
            teller = ahead[2] if sign == "N" else own if ahead[0] == "told" else ahead[1]
            return number is not False and (number is None or number[-1] == teller) and (number,)
        if sign == "t":
            return whole < len(self.past[1] if ahead[0] == "event" else self.run) and (whole,)
        names = word.split(".")
        return all(WHOLE.fullmatch(name) and int(name) < 32 for name in names) and (tuple(map(int, names)),)

    def parts(self, words):
        """What the words say; the index of the one at fault."""
        kind = words[0]
        if kind not in FORMS and kind != "deed" or kind == "undo" and not self.ahead:
            return 0
        if kind == "deed":
            if len(words) == 1 or words[1] not in DEEDS:
                return 1
            signs, parts = "." + DEEDS[words[1]], ["deed", words[1]]
        else:
            signs, parts = FORMS[kind], [kind]
        for at in range(len(parts), len(words)):
            if at > len(signs):
                return at
            value = self.read(signs[at - 1], words[at], parts)
            if not value:
                return at
            parts.append(value[0])
        return parts if len(parts) == 1 + len(signs) else len(words)

    def say(self, line):
        """The answer, or the number of the fault; "net" where there is a net."""
        if type(line) is not str or len(line) > 200:
            return -1
        parts = self.parts(line.split(" "))
        if type(parts) is int:
            return parts
        kind = parts[0]
        if kind in ("node", "clear", "deed", "undo", "rise", "fall", "told", "heard", "acks", "backs"):
            self.change(kind, parts)
            return "%d events, %d deeds" % (len(self.past[1]), len(self.run))
        return self.answer(kind, parts)

    def change(self, kind, parts):
        if kind == "undo":
            self.past, self.run = self.ahead.pop()
            return
        self.ahead.append((self.past, self.run))
        if kind == "node":
            self.past, self.run = (parts[1], ()), ()
        elif kind == "clear":
            self.run = ()
        elif kind == "deed":
            self.run += (tuple(parts[1:]),)
        else:
            self.past = (self.past[0], self.past[1] + (tuple(parts),))

    def answer(self, kind, parts):
        events, near = list(self.past[1]), plain.near(self.past[1])
        if kind == "net":
            why = plain.why(events, *parts[1:])
            return "let" if why is None else "idle" if why == ("none",) else "net"
        if kind in ("near", "up", "let"):
            names = near if kind == "near" else plain.up(events, parts[1]) if kind == "up" else [m for m in near if plain.may(events, parts[1], m)]
            return " ".join(map(str, names)) or "nobody"
        if kind in ("v", "l", "room"):
            return word_of({"v": plain.v, "l": plain.l, "room": plain.room}[kind](events, *parts[1:]))
        if kind == "may":
            return "yes" if plain.may(events, *parts[1:]) else "no"
        if kind == "why":
            why = plain.why(events, *parts[1:])
            return "let" if why is None else " ".join(map(str, why))
        if kind == "judge":
            return "serves" if serves(self.past, parts[1], parts[2], self.run, parts[3]) else "fails"
        return line_of(self.past[1][parts[1]], 1) if kind == "event" else "deed " + line_of(self.run[parts[1]], 2)


def deeds_of(desk):
    """The run of a desk, read off its answers."""
    deeds = []
    while True:
        told = outcome(desk.say, "show %d" % len(deeds))
        if told.startswith("raised"):
            return tuple(deeds)
        kind, *words = desk.say("show %d" % len(deeds)).split(" ")[1:]
        values = [int(word) for word in words[:2]] + [word[:-1] for word in words[2:3]] + [int(word) for word in words[3:4]] + [number_of(word) for word in words[4:]]
        deeds.append((kind,) + tuple(values))


class Pair:
    """A desk and its plain reading, asked the same; what is told of each line is compared."""

    def __init__(self, case):
        self.case, self.desk, self.plain, self.met = case, Desk(), PlainDesk(), {}

    def say(self, line):
        ahead = (self.plain.past, self.plain.run)
        told = self.plain.say(line)
        heard = outcome(self.desk.say, line)
        kind = line.split(" ")[0] if type(line) is str else None
        self.met[kind, type(told) is int] = self.met.get((kind, type(told) is int), 0) + 1
        if told == "net":
            told = self.take_net(line, heard)
        if type(told) is int:
            self.case.assertEqual(heard, raised(BadText(told)), (line, self.plain.past))
            self.case.assertEqual((self.plain.past, self.plain.run), ahead)
        else:
            self.case.assertEqual(heard, returned(told), (line, self.plain.past))
        return told

    def take_net(self, line, heard):
        """The run is that of some net; the answer is its ring."""
        _, a, m = line.split(" ")
        self.case.assertTrue(heard.startswith("returned 'ring "), heard)
        ring = tuple(map(int, heard[15:-1].split(".")))
        run = deeds_of(self.desk)
        self.case.assertTrue(serves(self.plain.past, a, int(m), run, ring))
        self.case.assertEqual(len(ring), 2 if plain.why(list(self.plain.past[1]), a, int(m)) == ("up", int(m)) else 3)
        self.plain.ahead.append((self.plain.past, self.plain.run))
        self.plain.run = run
        for r, told in ((ring, "serves"), (ring + (ring[0],), "fails"), (ring[::-1], "fails"), (ring[:1], "fails")):
            self.case.assertEqual(self.desk.say("judge %s %s %s" % (a, m, ".".join(map(str, r)))), told)
        return heard[10:-1]

    def all_told(self):
        """All that the desk shows: events, deeds, and what is asked of the book."""
        for at in range(len(self.plain.past[1]) + 1):
            self.say("event %d" % at)
        for at in range(min(len(self.plain.run), 5) + 1):
            self.say("show %d" % at)
        self.say("show %d" % len(self.plain.run))
        self.case.assertEqual(deeds_of(self.desk), self.plain.run)
        self.say("near")
        for a in ("010000", "110000"):
            for m in plain.near(self.plain.past[1]):
                for kind in ("v", "l", "room", "may", "why"):
                    self.say("%s %s %d" % (kind, a, m))
            for kind in ("up", "let"):
                self.say(kind + " " + a)


def name(chance, desk):
    near = plain.near(desk.past[1])
    return str(chance.choice(near * 6 + (desk.past[0], chance.randrange(32))))


def serial(chance, desk, kind, x, p):
    """A serial that may come, or nearly."""
    if not x.isdecimal() or int(x) not in plain.near(desk.past[1]):
        return str(chance.randrange(1, 5))
    rows = {way: state for q, way, state in plain.row_states(list(desk.past[1]), int(x)) if q == p}
    first, last, _ = rows.get("out" if kind in ("told", "backs") else "in", (0, 0, ()))
    whole = last + chance.choice((1, 1, 1, 2, 0)) if kind in ("told", "heard") else chance.choice((last, last, first + 1, first, last + 1))
    return str(max(whole, 0))


def number(chance, teller):
    told = drawn.number(chance, teller)
    return word_of(told)


def line(chance, desk):
    """A line by chance, which is taken for the most part."""
    kind = chance.choice(tuple(FORMS) + ("told", "heard") * 5 + ("acks", "backs", "deed", "net", "rise", "up", "let", "why") * 2)
    if kind == "node" and chance.random() < 0.8 or kind in ("undo", "fall", "clear") and chance.random() < 0.5:
        kind = "rise"
    p, a = chance.choice(("", "0", "01", "010")), chance.choice(("010000", "010111", "110000"))
    x, own = name(chance, desk), desk.past[0]
    if kind == "rise":
        return "rise %d" % chance.choice([other for other in range(5) if other != own])
    if kind == "deed":
        return deed_line(chance, p)
    if kind in ("told", "heard", "acks", "backs"):
        words = [kind, x, p + "*", serial(chance, desk, kind, x, p)]
        return " ".join(words + [number(chance, own if kind == "told" else int(x))] * (len(FORMS[kind]) == 4))
    values = {"i": str(chance.randrange(32)), "x": x, "a": a, "t": str(chance.randrange(6)), "R": "%d.%s" % (own, x) + chance.choice(("", ".2", ".31"))}
    return " ".join([kind] + [values[sign] for sign in FORMS[kind]])


def deed_line(chance, p):
    kind = chance.choice(tuple(DEEDS))
    i, j = chance.sample(range(5), 2)
    values = {"i": str(i), "j": str(j), "p": p + "*", "s": str(chance.randrange(1, 4)), "N": number(chance, i)}
    return " ".join(["deed", kind] + [values[sign] for sign in DEEDS[kind]])


SPOILT = ("", "0", "-0", "00", "01", "+1", "1.", "-1", "32", "31", "x", "none", "None", "*", "2*", "0101010*", "01", "0*1", "010101*", "010101", "01010", "0101012",
          "1.2", "1..2", "1.02", "1.-0.2", "-1.2", "1.32", "1.+2", "1_0", "1e3", "0x1", "\u0661", "\u00b2", "1\u0660", "\uff11", "1\n", "\t1", "1\r", "True",
          "near", "rise", "deed", "9" * 30, "1.5.2", "0.1", "2.0.1", "tell", "0.0")


def changed_line(chance, text):
    """A line with one word spoilt, left out, put in, turned round."""
    words = text.split(" ")
    at = chance.randrange(len(words))
    return chance.choice((
        " ".join(words[:at] + [chance.choice(SPOILT)] + words[at + 1:]), " ".join(words[:at] + [chance.choice(SPOILT)] + words[at:]), " ".join(words[:at] + words[at + 1:]),
        " ".join(words[::-1]), " ".join(words[:at]), text + " " + chance.choice(SPOILT), " " + text, text + " ", text.replace(" ", "  ", 1), text.upper(),
        " ".join(words[:at] + words[at + 1:at + 2] + words[at:at + 1] + words[at + 2:]), " ".join(words[:at] + words[at:at + 1] + words[at:]),
        text + "\n", text.replace(" ", "\t"), " ".join(words[:at] + [words[at][::-1]] + words[at + 1:]), " ".join(words[:at] + ["0" + words[at]] + words[at + 1:]),
        text + " " * (200 - len(text)), text + " " * (201 - len(text)), [text], words,
    ))


class Lines(unittest.TestCase):

    def said(self, *lines):
        pair = Pair(self)
        for text in lines:
            self.assertNotIsInstance(pair.say(text), int, text)
        return pair

    def full(self):
        """A desk in which lines of every kind are taken."""
        return self.said("node 3", "rise 1", "rise 2", "told 1 01* 1 5.3", "heard 2 01* 4 7.-2.2", "told 2 * 2 6.3", "backs 2 * 1", "heard 1 * 3 8.1",
                         "acks 1 * 2", "deed rise 3 1", "deed tell 3 1 01* 1 5.3", "deed come 3 1 01*")

    each = ("node 3", "rise 0", "rise 31", "fall 1", "told 1 01* 2 6.3", "told 1 * 1 none", "heard 2 01* 5 0.-1.2", "acks 2 01* 4", "acks 1 * 3", "backs 1 01* 1",
            "backs 2 * 2", "deed rise 1 2", "deed fall 2 1", "deed tell 4 0 010101* 7 1.4", "deed tell 0 4 * 1 none", "deed come 4 0 *", "deed ack 0 4 1* 9", "deed back 30 31 01*",
            "clear", "undo", "net 010000 2", "net 110000 1", "near", "up 010000", "let 010000", "v 010000 1", "l 010000 1", "room 010000 2", "may 010000 2", "may 110000 2",
            "why 010000 2", "why 110000 2", "why 110000 1", "event 0", "event 7", "show 0", "show 2", "judge 010000 2 3.2.1", "judge 010000 2 3", "judge 010000 2 31.30.0")

    def test_each_line_as_it_is(self):
        for text in self.each:
            pair = self.full()
            self.assertNotIsInstance(pair.say(text), int, text)
            pair.all_told()

    def test_each_line_with_one_word_spoilt(self):
        pair = self.full()
        for text in self.each:
            words = text.split(" ")
            for at in range(len(words) + 1):
                for word in SPOILT + tuple(words):
                    for changed in (words[:at] + [word] + words[at + 1:], words[:at] + [word] + words[at:]):
                        self.both(pair, " ".join(changed))
                self.both(pair, " ".join(words[:at]))
                self.both(pair, " ".join(words[:at] + words[at + 1:]))
                self.both(pair, " ".join(words[:at] + words[at + 1:at + 2] + words[at:at + 1] + words[at + 2:]))
            for changed in (" ".join(words[::-1]), " " + text, text + " ", text.replace(" ", "  ", 1), text.replace(" ", "\t"), text + "\n", text.upper()):
                self.both(pair, changed)

    def both(self, pair, text):
        """Says a line; if that was taken, takes it back."""
        ahead = len(pair.plain.ahead)
        pair.say(text)
        if len(pair.plain.ahead) > ahead:
            pair.say("undo")
        elif len(pair.plain.ahead) < ahead:
            fresh = self.full()
            pair.desk, pair.plain = fresh.desk, fresh.plain

    def test_the_first_word_at_fault(self):
        pair = self.full()
        for text, at in (
            ("", 0), (" ", 0), (" near", 0), ("Near", 0), ("near ", 1), ("near 1", 1), ("up", 1), ("up ", 1), ("up 01000", 1), ("up 010000 ", 2), ("may 010000", 2),
            ("may 010000 5", 2), ("may 010000 3", 2), ("may x 5 7", 1), ("told", 1), ("told 5", 1), ("told 5 2 0 x y z", 1), ("told 1", 2), ("told 1 01", 2), ("told 1 01*", 3),
            ("told 1 01* 1", 3), ("told 1 01* 2", 4), ("told 1 01* 2 5.1", 4), ("told 1 01* 2 5.3 ", 5), ("told 1 01* 0 5.3", 3), ("heard 2 01* 4 0.2", 3), ("heard 2 01* 5 0.3", 4),
            ("acks 2 01* 5", 3), ("acks 2 01* 4 4", 4), ("acks 1 01* 1", 3), ("backs 1 01* 2", 3), ("backs 2 * 1", 3), ("rise 1", 1), ("rise 3", 1), ("rise 32", 1), ("fall 3", 1),
            ("fall 0", 1), ("deed", 1), ("deed ", 1), ("deed told", 1), ("deed rise", 2), ("deed rise 1", 3), ("deed rise 1 1", 3), ("deed rise 1 2 3", 4), ("deed tell 1 2 * 0 1.1", 5),
            ("deed tell 1 2 * 1 1.2", 6), ("deed tell 1 2 * 1", 6), ("deed come 1 2 x", 4), ("deed ack 1 2 * 1 1.1", 6), ("event 8", 1), ("event -1", 1), ("show 3", 1),
            ("show 00", 1), ("event", 1), ("judge 010000 2", 3), ("judge 010000 2 3.2.32", 3), ("judge 010000 2 3..2", 3), ("judge 010000 2 3.2.", 3), ("judge 010000 2 3.02", 3),
            ("net 010000", 2), ("net 010000 4", 2), ("node", 1), ("node 32", 1), ("node 3 3", 2), ("clear 1", 1), ("undo 1", 1), ("undoes", 0),
        ):
            self.assertEqual(pair.say(text), at, text)
        # Without a change there is nothing to take back, whatever stands behind the word.
        pair = Pair(self)
        for text in ("undo", "undo ", "undo x"):
            self.assertEqual(pair.say(text), 0)

    def test_values_that_are_no_lines(self):
        pair = self.full()
        for value in any_values():
            pair.say(value)
        for text in ("near" + " " * 196, "near" + " " * 197, "x" * 200, "x" * 201, " " * 200, " " * 201, "deed tell 0 1 * 1 " + "1." * 90 + "0", "deed tell 0 1 * 1 " + "1." * 91 + "0"):
            pair.say(text)
        self.assertEqual(pair.say("near" + " " * 196), 1)
        self.assertEqual(pair.say("near" + " " * 197), -1)
        pair.all_told()

    def test_numbers_and_figures(self):
        pair = self.full()
        for text, told in (
            ("told 1 01* 2 5.3", "9 events, 3 deeds"), ("told 1 01* 2 0.3", "9 events, 3 deeds"), ("told 1 01* 2 0.0.-1.3", "9 events, 3 deeds"), ("told 1 01* 2 none", "9 events, 3 deeds"), ("told 1 01* 1000000000000 1000000000000.-1000000000000.3", "9 events, 3 deeds"),
            ("told 1 01* 02 5.3", 3), ("told 1 01* +2 5.3", 3), ("told 1 01* -2 5.3", 3), ("told 1 01* 2 5", 4), ("told 1 01* 2 -5.3", 4), ("told 1 01* 2 5.-0.3", 4),
            ("told 1 01* 2 5.00.3", 4), ("told 1 01* 2 05.3", 4), ("told 1 01* 2 5.03", 4), ("told 1 01* 2 5.-3", 4), ("told 1 01* 2 5.+1.3", 4), ("told 1 01* 2 5,3", 4),
            ("told 1 01* 2 None", 4), ("told 1 01* 2 ", 4), ("told 1 01* 2 .3", 4), ("told 1 01* 2 5.3.", 4), ("told 1 01* 2 5._1.3", 4), ("told \u0661 01* 2 5.3", 1),
            ("told 1 01* \u0662 5.3", 3), ("told 1 01* 2 \uff15.3", 4), ("told 1 01* 2 5.\u0663", 4), ("told 1 01* \u00b2 5.3", 3),
        ):
            answer = pair.say(text)
            self.assertEqual(answer, told, text)
            if type(told) is not int:
                pair.all_told()
                pair.say("undo")


class Desks(unittest.TestCase):

    def test_by_a_plain_reading(self):
        met = {}
        for seed in range(40):
            chance, pair = random.Random(seed), Pair(self)
            for _ in range(120):
                text = line(chance, pair.plain)
                if chance.random() < 0.25:
                    text = changed_line(chance, text)
                if len(pair.plain.past[1]) < 60:
                    pair.say(text)
            pair.all_told()
            self.assertIs(check_past(pair.plain.past), pair.plain.past)
            met = {kind: met.get(kind, 0) + pair.met.get(kind, 0) for kind in set(met) | set(pair.met)}
        for kind in list(FORMS) + ["deed"]:
            self.assertGreater(met.get((kind, False), 0), 10, (kind, met))

    def test_undo(self):
        """Behind lines none of which is undo, and as many undo as there were changes, all stands as it stood."""
        for seed in range(25):
            chance, pair = random.Random(seed), Pair(self)
            for _ in range(30):
                pair.say(line(chance, pair.plain))
            start, many = (pair.plain.past, pair.plain.run), len(pair.plain.ahead)
            stood = [start]
            for _ in range(25):
                text = line(chance, pair.plain)
                if text != "undo":
                    pair.say(text)
                    if len(pair.plain.ahead) >= many + len(stood):
                        stood.append((pair.plain.past, pair.plain.run))
            while len(stood) > 1:
                self.assertEqual((pair.plain.past, pair.plain.run), stood.pop())
                pair.say("undo")
                pair.all_told()
            self.assertEqual((pair.plain.past, pair.plain.run), start)
            while pair.plain.ahead:
                self.assertNotIsInstance(pair.say("undo"), int)
            # Past the first change.
            self.assertEqual((pair.say("undo"), pair.plain.past, pair.plain.run), (0, (0, ()), ()))
            pair.all_told()

    def test_undo_of_each_kind_of_change(self):
        start = ("node 3", "rise 1", "rise 2", "told 1 01* 1 5.3", "heard 2 01* 4 7.-2.2", "deed rise 1 2")
        for text in ("node 3", "node 4", "rise 9", "fall 1", "told 2 * 1 none", "heard 1 * 1 none", "acks 2 01* 3", "backs 1 01* 1", "deed rise 1 2", "deed fall 8 9", "clear",
                     "net 010000 2", "net 010000 1"):
            pair = Pair(self)
            for ahead in start:
                pair.say(ahead)
            stood = (pair.plain.past, pair.plain.run)
            self.assertNotIsInstance(pair.say(text), int)
            pair.all_told()
            self.assertEqual(pair.say("undo"), "4 events, 1 deeds")
            self.assertEqual((pair.plain.past, pair.plain.run), stood)
            pair.all_told()
        # What changes nothing is a change, too; where net answers let or idle it is none.
        pair = Pair(self)
        self.assertEqual([pair.say(text) for text in ("clear", "node 0", "rise 1", "net 000000 1", "heard 1 * 1 5.1", "net 000000 1", "undo", "undo", "undo", "undo")],
                         ["0 events, 0 deeds"] * 2 + ["1 events, 0 deeds", "idle", "2 events, 0 deeds", "let", "1 events, 0 deeds"] + ["0 events, 0 deeds"] * 3)
        self.assertEqual(pair.say("undo"), 0)

    def test_nothing_else_changes_anything(self):
        pair = Pair(self)
        for text in ("node 3", "rise 1", "rise 2", "told 1 01* 1 5.3", "heard 2 01* 4 7.-2.2", "net 010000 2"):
            pair.say(text)
        stood = (pair.plain.past, pair.plain.run, list(pair.plain.ahead))
        chance = random.Random(74)
        for _ in range(300):
            text = line(chance, pair.plain)
            if text.split(" ")[0] in ("near", "up", "let", "v", "l", "room", "may", "why", "event", "show", "judge"):
                pair.say(text)
                pair.say(text)
        for text in ("near x", "told 1 01* 1 6.3", "undo now", "net 010000", "deed rise 1", "node 3 ", None, "x" * 201):
            self.assertIsInstance(pair.say(text), int)
        self.assertEqual((pair.plain.past, pair.plain.run, pair.plain.ahead), stood)
        pair.all_told()
        for _ in range(6):
            pair.say("undo")
        self.assertEqual(pair.say("undo"), 0)

    def test_judge_until_the_past_or_the_run_is_another(self):
        pair = Pair(self)
        for text in ("node 3", "rise 1", "rise 2", "told 1 01* 1 5.3", "heard 2 01* 4 7.-2.2"):
            pair.say(text)
        ring = pair.say("net 010000 2").split(" ")[1]
        judge = "judge 010000 2 " + ring
        self.assertEqual([pair.say(text) for text in (judge, "up 010000", judge, "judge 110000 2 " + ring, "judge 010000 1 " + ring)], ["serves", "1", "serves", "fails", "fails"])
        for text in ("told 2 * 1 none", "deed rise 3 9", "clear", "rise 9"):
            pair.say(text)
            self.assertEqual(pair.say(judge), "fails")
            pair.say("undo")
            self.assertEqual(pair.say(judge), "serves")
        # What the node does not see may come in.
        pair.say("deed rise 8 9")
        self.assertEqual(pair.say(judge), "serves")

    def test_two_desks_are_apart(self):
        one, other = Desk(), Desk()
        self.assertEqual([one.say("rise 1"), other.say("rise 2"), one.say("near"), other.say("near"), other.say("undo"), one.say(line="near"), other.say("near")],
                         ["1 events, 0 deeds"] * 2 + ["1", "2", "0 events, 0 deeds", "1", "nobody"])
        self.assertEqual(outcome(other.say, "undo"), raised(BadText(0)))

    def test_a_new_desk(self):
        pair = Pair(self)
        pair.all_told()
        self.assertEqual([pair.say(text) for text in ("near", "rise 0", "event 0", "show 0", "clear", "undo")], ["nobody", 1, 1, 1, "0 events, 0 deeds", "0 events, 0 deeds"])

    def test_sizes(self):
        """Sixty events, and a run of 1,200 deeds."""
        pair = Pair(self)
        for x in range(1, 8):
            pair.say("rise %d" % x)
        for at in range(53):
            pair.say("told %d 01* %d %d.0" % (at // 2 % 7 + 1, at + 1, 60 - at) if at % 2 else "heard %d 01* %d %d.%d" % (at % 7 + 1, at + 1, at + 30, at % 7 + 1))
        self.assertEqual(len(pair.plain.past[1]), 60)
        desk = pair.desk
        for at in range(1200):
            self.assertEqual(desk.say("deed rise 1 2"), "60 events, %d deeds" % (at + 1))
        self.assertEqual((desk.say("show 1199"), outcome(desk.say, "show 1200")), ("deed rise 1 2", raised(BadText(1))))
        self.assertTrue(desk.say("net 010000 1").startswith("ring 0.1"))
        self.assertEqual(desk.say("undo"), "60 events, 1200 deeds")
        for at in range(1200, 0, -1):
            desk.say("undo")
        self.assertEqual(desk.say("clear"), "60 events, 0 deeds")
