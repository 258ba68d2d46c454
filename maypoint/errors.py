"""The errors of the program ([0])."""


class OwnError(ValueError):
    """The base of all errors that the document names."""


class BadNumber(OwnError):
    """A value that is no number."""

    def __init__(self, at):
        self.at = at


class BadStretch(OwnError):
    """A value that is no stretch, or no address."""

    def __init__(self, at):
        self.at = at


class BadOctets(OwnError):
    """Octets that are no letter, or no beginning of a stream."""

    def __init__(self, at):
        self.at = at


class BadPast(OwnError):
    """A value that is no past, or an event that may not come."""

    def __init__(self, at):
        self.at = at


class BadDeed(OwnError):
    """A value that is no run, or a deed that cannot be done."""

    def __init__(self, at):
        self.at = at


class BadRule(OwnError):
    """A value that is no rule."""

    def __init__(self, at):
        self.at = at


class BadRow(OwnError):
    """A value that is no state of a row."""

    def __init__(self, at):
        self.at = at


class BadText(OwnError):
    """A text that cannot be read."""

    def __init__(self, at):
        self.at = at


class Refused(OwnError):
    """A value that is well formed and not let here."""

    def __init__(self, value):
        self.value = value
