"""What several tests need: odd values, outcomes of calls, and rows of examples."""

import copy

import maypoint.errors
from maypoint.errors import OwnError


def nested(depth, wrap):
    """A value within as many lists or tuples."""
    value = 0
    for _ in range(depth):
        value = wrap((value,))
    return value


def any_values():
    """Values of every kind that "any value" covers ([0]), few of them of any use."""
    flat = [
        0, 1, -1, 5, 31, 32, 63, 64, 127, 128, 255, 256, 10 ** 12 + 1, -10 ** 12,
        True, False, None, "", "0", "1", "01", "000000", "0000000", "2", "x1", "rise", "told",
        "fall", "heard", "acks", "backs", "tell", "come", "ack", "back", "report", "mail", "\n0",
    ]
    rows = [[], (), [0], (0,), [0, 1], (0, 1), (True, 1), (0, True), (0, ()), (0, []), [0, ()],
            ("rise", 1), ["rise", 1], ("rise", True), (0, 0, ()), [0, 0, ()], ("", ""), (None,),
            ((),), [[]], ((0, 1), (0, 1)), (0, (("rise", 1),)), (0, ("rise", 1)), "rise 1",
            nested(100, list), nested(100, tuple), tuple(range(91)), list(range(91))]
    return flat + rows + [(value,) for value in flat] + [(value, value) for value in flat]


def outcome(call, *arguments, **named):
    """What a call returns, or its error's name and attributes; True is told from 1."""
    try:
        return "returned " + repr(call(*arguments, **named))
    except OwnError as error:
        return "raised " + type(error).__name__ + " " + repr(vars(error))


def returned(value):
    """The outcome of a call that returns this value."""
    return "returned " + repr(value)


def raised(error):
    """The outcome of a call that raises an error such as this one."""
    return "raised " + type(error).__name__ + " " + repr(vars(error))


def untouched(call, *arguments):
    """The outcome of a call, and whether the arguments are afterwards what they were."""
    before = copy.deepcopy(arguments)
    told = outcome(call, *arguments)
    return told, repr(before) == repr(arguments)


def has_list(value):
    """Whether a list stands somewhere within a value."""
    if isinstance(value, tuple):
        return any(has_list(item) for item in value)
    return isinstance(value, list)


def example_rows(text):
    """The rows of examples as they are written: each a source and what it is to tell ("" for nothing)."""
    rows = []
    for line in text.splitlines():
        line = line.strip()
        if line.startswith(">>> "):
            rows.append([line[4:], ""])
        elif line:
            rows[-1][1] = line
    return rows


def run_example(source, names):
    """What a row of an example tells, written as the document writes it."""
    try:
        code = compile(source, "example", "eval")
    except SyntaxError:
        exec(source, names)
        return ""
    try:
        value = eval(code, names)
    except OwnError as error:
        return "raises " + type(error).__name__ + "(" + repr(*vars(error).values()) + ")"
    return "" if value is None else repr(value)
