"""Nodes that keep to the policy: their targets, what they tell and what they acknowledge ([43] to [47])."""

from maypoint.books import Book
from maypoint.errors import BadPast, Refused
from maypoint.numbers import is_below, least_of

EVENTS = {"report": "heard", "ack": "backs"}


def last_below(row, bar):
    """The greatest serial of a row from which on its least number is below the bar; 0 if there is none."""
    serials = [serial for serial, number in row.state()[2] if is_below(number, bar)]
    return serials[-1] if serials else 0


def waits(row):
    """Whether something that was heard is not acknowledged yet."""
    return row.last > row.first


class Node:
    """A node of this name, a house of these stretches."""

    def __init__(self, name, homes):
        self.name = name
        self.homes = homes
        self.costs = {}
        self.seen = Book(name)
        # By stretch: the target, where there is one.
        self.targets = {}
        # The stretches of which there may be anything to tell or to acknowledge.
        self.known = {stretch: True for stretch in homes}

    def rises(self, x, cost):
        """The link to x rises, and adds this cost."""
        if x in self.costs or x == self.name:
            raise Refused(x)
        self.seen.add_event(("rise", x))
        self.costs[x] = cost
        return self._settle_all(self.targets)

    def falls(self, x):
        """The link to x falls."""
        self._check_near(x)
        self.seen.add_event(("fall", x))
        del self.costs[x]
        before = self.targets
        self.targets = {stretch: before[stretch] for stretch in before if before[stretch] != x}
        return self._settle_all(before)

    def turns(self, x, cost):
        """The link to x adds this cost from now on."""
        self._check_near(x)
        self.costs[x] = cost
        return self._settle_all(self.targets)

    def comes(self, x, letter):
        """A letter of x's comes."""
        self._check_near(x)
        if letter[0] not in EVENTS:
            raise Refused(letter)
        try:
            self.seen.add_event((EVENTS[letter[0]], x) + letter[1:])
        except BadPast:
            raise Refused(letter) from None
        self.known[letter[1]] = True
        # All other stretches are settled, and nothing of theirs has changed.
        return tuple(self._settle(letter[1], self.targets.get(letter[1])))

    def target(self, stretch):
        """The neighbour to whom letters for the stretch go; None if there is none."""
        return self.targets.get(stretch)

    def number(self, stretch):
        """The number that the node has for the stretch."""
        if stretch in self.homes:
            return (0, self.name)
        target = self.targets.get(stretch)
        newest = None if target is None else self._heard(stretch, target).newest()
        return None if newest is None else (newest[0] + self.costs[target], self.name)

    def told(self, stretch, x):
        """The number that x was told last; the book refuses whoever is no neighbour."""
        return self._told(stretch, x).newest()

    def book(self):
        """A copy of the book of all that the node has seen."""
        return self.seen.copied()

    def stretches(self):
        """The stretches that the node is a house of or has any report of, shorter ones first."""
        return tuple(sorted(self.known, key=lambda text: (len(text), text)))

    def is_house(self, stretch):
        """Whether the node is a house of the stretch."""
        return stretch in self.homes

    def is_open(self, stretch):
        """Whether the node, no house and without a target, told a number that may still count ([55])."""
        if stretch in self.homes or stretch in self.targets:
            return False
        return any([self._told(stretch, x).least() is not None for x in self.costs])

    def held(self):
        """The (neighbour, stretch) of whom something that was heard is not acknowledged yet ([52])."""
        rows = [(x, row) for x in self.seen.near() for row in self.seen.row_states(x)]
        return [(x, stretch) for x, (stretch, way, state) in rows if way == "in" and state[1] > state[0]]

    def _check_near(self, x):
        """Refuses whoever is no neighbour."""
        if x not in self.costs:
            raise Refused(x)

    def _told(self, stretch, x):
        """The row of what x was told."""
        return self.seen.row(x, stretch, "out")

    def _heard(self, stretch, x):
        """The row of what came from x."""
        return self.seen.row(x, stretch, "in")

    def _settle_all(self, before):
        """All letters that are due, `before` being the targets ahead of the event."""
        letters = []
        for stretch in self.stretches():
            letters.extend(self._settle(stretch, before.get(stretch)))
        return tuple(letters)

    def _settle(self, stretch, before):
        """The letters that are due for one stretch, `before` being its target ahead of the event."""
        if stretch not in self.homes:
            self._choose(stretch)
        return self._tell(stretch) + self._acknowledge(stretch, before)

    def _choose(self, stretch):
        """Takes another target, or leaves the one there is, where that is due."""
        told = {x: self._told(stretch, x).least() for x in self.costs}
        newest = {x: self._heard(stretch, x).newest() for x in self.costs}
        bar = least_of([told[x] for x in told if is_below(told[x], newest[x])])
        free = [(newest[x][0] + self.costs[x], x) for x in newest if is_below(newest[x], bar)]
        target = self.targets.get(stretch)
        lost = target is not None and newest[target] is None
        if free:
            best = min(free)
            if target is None or lost or newest[target][0] + self.costs[target] > best[0]:
                self.targets[stretch] = best[1]
        elif lost and least_of([told[x] for x in told]) is None:
            del self.targets[stretch]

    def _tell(self, stretch):
        """Tells the number to each neighbour that was told another one last."""
        number = self.number(stretch)
        letters = []
        for x in sorted(self.costs):
            row = self._told(stretch, x)
            if row.newest() != number:
                report = (stretch, row.last + 1, number)
                self.seen.add_event(("told", x) + report)
                letters.append((x, ("report",) + report))
        return letters

    def _acknowledge(self, stretch, before):
        """Acknowledges all that the node may."""
        target = self.targets.get(stretch)
        kept = target is not None and target == before
        others = [x for x in sorted(self.costs) if x != target]
        letters = []
        for x in others:
            due = self._due_to_other(stretch, x, target) if kept else self._heard(stretch, x).last
            letters.extend(self._ack(stretch, x, due))
        if target is None:
            return letters
        due = self._due_to_target(stretch, target, others) if kept else self._heard(stretch, target).last
        # It hangs on what the others were acknowledged, and is sent ahead of that.
        return self._ack(stretch, target, due) + letters

    def _due_to_other(self, stretch, x, target):
        """The serial to acknowledge to a neighbour other than the target that was kept."""
        row, bar = self._heard(stretch, x), self._told(stretch, x).least()
        if is_below(bar, row.least()) or is_below(self._heard(stretch, target).least(), bar):
            return row.last
        return last_below(row, bar)

    def _due_to_target(self, stretch, target, others):
        """The serial to acknowledge to the target that was kept, the others having got theirs."""
        bars = [self._told(stretch, target).least()]
        for x in others:
            row, bar = self._heard(stretch, x), self._told(stretch, x).least()
            if waits(row) or is_below(bar, row.least()):
                bars.append(bar)
        return last_below(self._heard(stretch, target), least_of(bars))

    def _ack(self, stretch, x, k):
        """The acknowledgement of k to x, if it is a new one."""
        if k <= self._heard(stretch, x).first:
            return []
        self.seen.add_event(("acks", x, stretch, k))
        return [(x, ("ack", stretch, k))]
