"""The errors of the package. Each keeps the value that it is about as its one field."""


class LineError(ValueError):
    """The base class of the errors about wrong values."""


class InvalidNumber(LineError):
    """The value is no such number."""

    def __init__(self, value):
        self.value = value


class InvalidText(LineError):
    """The value is no such text."""

    def __init__(self, value):
        self.value = value


class InvalidName(LineError):
    """The value is no name."""

    def __init__(self, value):
        self.value = value


class InvalidParents(LineError):
    """The value cannot be the parents of a version."""

    def __init__(self, value):
        self.value = value


class InvalidVersion(LineError):
    """The value is no version, or one that does not fit its history."""

    def __init__(self, value):
        self.value = value


class InvalidHistory(LineError):
    """The value is no history."""

    def __init__(self, value):
        self.value = value


class InvalidLayout(LineError):
    """The value is no layout, or no part of one."""

    def __init__(self, value):
        self.value = value


class InvalidPrices(LineError):
    """The value is no prices."""

    def __init__(self, value):
        self.value = value


class InvalidTelling(LineError):
    """The value is no such telling."""

    def __init__(self, value):
        self.value = value


class InvalidDeeds(LineError):
    """The value is no deeds that can be done."""

    def __init__(self, value):
        self.value = value


class InvalidLine(LineError):
    """The value is no place of a line."""

    def __init__(self, value):
        self.value = value


class InvalidRanges(LineError):
    """The value is no ranges."""

    def __init__(self, value):
        self.value = value


class InvalidCommand(LineError):
    """The value is no command of the console."""

    def __init__(self, value):
        self.value = value


class ParseError(LineError):
    """A text is not written as it should be; the field is the index of its first wrong line."""

    def __init__(self, line):
        self.line = line


class TooMany(OverflowError):
    """There would be more than the limit."""

    def __init__(self, limit):
        self.limit = limit


class NothingToUndo(LookupError):
    """There is no change that could be undone."""
