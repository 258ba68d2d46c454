"""Tables, the least that answer alike, and how letters go by those of the nodes ([61] to [64])."""

from maypoint.numbers import NAMES, is_name, is_whole
from maypoint.stretches import all_stretches, is_address, stretch_fault, stretches_of


class Table:
    """A table of these rows."""

    def __init__(self, rows):
        self.answers = {stretch: to for stretch, to in rows}

    def longest(self, address):
        """What the row of the longest stretch that holds the address tells; None if there is none."""
        for stretch in stretches_of(address):
            if stretch in self.answers:
                return self.answers[stretch]
        return None

    def listed(self):
        """All rows."""
        return tuple([(stretch, self.answers[stretch]) for stretch in sorted(self.answers)])


def is_answer(value):
    """Whether this is a name or None."""
    return value is None or is_name(value)


def ordered(answers):
    """The answers, each once, the names ascending and None behind them."""
    return tuple([answer for answer in list(range(NAMES)) + [None] if answer in answers])


def answers_within(table):
    """By stretch, the longest first: the answers of the table within it."""
    found = {}
    for stretch in all_stretches():
        if is_address(stretch):
            found[stretch] = (table.longest(stretch),)
        else:
            found[stretch] = ordered(found[stretch + "0"] + found[stretch + "1"])
    return found


def is_table(rows):
    """Whether these are rows of a table, no stretch standing in two of them."""
    if not isinstance(rows, tuple):
        return False
    for row in rows:
        if not isinstance(row, tuple) or len(row) != 2 or stretch_fault(row[0]) is not None or not is_answer(row[1]):
            return False
    return len({row[0] for row in rows}) == len(rows)


def is_price(value):
    """Whether this is a stretch, a whole number from 0 on, and unlike answers in their order."""
    if not isinstance(value, tuple) or len(value) != 3 or stretch_fault(value[0]) is not None:
        return False
    if not is_whole(value[1]) or value[1] < 0 or not isinstance(value[2], tuple):
        return False
    return all([is_answer(answer) for answer in value[2]]) and value[2] == ordered(value[2])


def price_of(priced, within, stretch, answer):
    """The price of an answer for a stretch, `priced` being the numbers and answers by stretch."""
    if stretch in priced:
        number, answers = priced[stretch]
        return number if answer in answers else number + 1
    return 0 if within[stretch] == (answer,) else 1


def prices_serve(within, prices):
    """Whether these are prices of all stretches with several answers, none too high for its halves."""
    if not isinstance(prices, tuple) or not all([is_price(price) for price in prices]):
        return False
    if sorted([price[0] for price in prices]) != sorted([stretch for stretch in within if len(within[stretch]) > 1]):
        return False
    priced = {stretch: (number, answers) for stretch, number, answers in prices}
    for stretch in priced:
        for answer in list(range(NAMES)) + [None]:
            halves = [price_of(priced, within, stretch + sign, answer) for sign in ("0", "1")]
            if price_of(priced, within, stretch, answer) > sum(halves):
                return False
    return True


def table_prices_hold(table, rows, prices):
    """Whether the rows answer as the table does, and the prices show that no fewer rows do."""
    if not is_table(rows):
        return False
    within = answers_within(table)
    if answers_within(Table(rows)) != within or not prices_serve(within, prices):
        return False
    priced = {stretch: (number, answers) for stretch, number, answers in prices}
    return price_of(priced, within, "", None) == len(rows)


def least_prices(within):
    """By stretch: the least number of rows below an answer, and the answers below which there are so few."""
    found = {}
    for stretch in within:
        if len(within[stretch]) == 1:
            found[stretch] = (0, within[stretch])
            continue
        one, answers = found[stretch + "0"]
        other, others = found[stretch + "1"]
        both = ordered([answer for answer in answers if answer in others])
        found[stretch] = (one + other, both) if both else (one + other + 1, ordered(answers + others))
    return found


def rows_from(priced, within, stretch, above):
    """The rows from this stretch on, `above` being what the longest shorter row answers."""
    answers = priced[stretch][1]
    to = above if above in answers else answers[0]
    rows = () if above in answers else ((stretch, to),)
    if len(within[stretch]) == 1:
        return rows
    return rows + rows_from(priced, within, stretch + "0", to) + rows_from(priced, within, stretch + "1", to)


def least_table(table):
    """The fewest rows that answer as the table does, and the prices that show it."""
    within = answers_within(table)
    priced = least_prices(within)
    prices = [(stretch,) + priced[stretch] for stretch in within if len(within[stretch]) > 1]
    return (rows_from(priced, within, "", None), tuple(prices))


def goes_by(node, stretches):
    """The first of the stretches of which the node is a house or for which it has a target; None if there is none."""
    for stretch in stretches:
        if node.is_house(stretch) or node.target(stretch) is not None:
            return stretch
    return None


def handed_to(node, address):
    """To whom the node hands a letter: itself where it is home, None where it is dropped."""
    stretch = goes_by(node, stretches_of(address))
    if stretch is None:
        return None
    if node.is_house(stretch):
        return node.name
    target = node.target(stretch)
    return target if node.book().may(address, target) else None


def travel(field, i, address):
    """The nodes to which a letter comes from node i on, and whether it is home or dropped at the last one."""
    nodes = (i,)
    to = handed_to(field.node(i), address)
    while to is not None and to != nodes[-1]:
        nodes = nodes + (to,)
        to = handed_to(field.node(to), address)
    return (nodes, "dropped" if to is None else "home")


def is_drop(node, stretch):
    """Whether the table of the node tells that letters of this stretch are dropped."""
    if not node.is_open(stretch):
        return False
    shorter = goes_by(node, [stretch[:many] for many in reversed(range(len(stretch)))])
    return shorter is None or not node.is_house(shorter)


def node_table(field, i):
    """The table of node i."""
    node = field.node(i)
    rows = []
    for stretch in node.stretches():
        if node.is_house(stretch):
            rows.append((stretch, i))
        elif node.target(stretch) is not None:
            rows.append((stretch, node.target(stretch)))
        elif is_drop(node, stretch):
            rows.append((stretch, None))
    return Table(tuple(rows))
