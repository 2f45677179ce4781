"""The errors of the package."""


class DayError(ValueError):
    """A value that is wrong by itself."""


class InvalidName(DayError):
    """What is no name."""


class InvalidNet(DayError):
    """What is no net."""


class InvalidRow(DayError):
    """What is no row of the net."""


class InvalidTable(DayError):
    """What is no table, or no closed one where that is asked for."""


class InvalidCourse(DayError):
    """What is no course of the net."""


class InvalidWay(DayError):
    """What is no way, or returns what a way may not return."""


class InvalidDay(DayError):
    """What is no day."""


class InvalidDeal(DayError):
    """What is no deal of the day."""


class InvalidOperation(DayError):
    """What cannot be done with these values."""


class InvalidCommand(DayError):
    """What is no command."""


class ParseError(DayError):
    """A text that cannot be read, with the index of its line."""

    def __init__(self, line):
        DayError.__init__(self, f"the text cannot be read: line {line!r}")
        self.line = own_copy(line)


class UnknownName(KeyError):
    """A name of nothing that is there."""

    def __init__(self, wanted):
        KeyError.__init__(self, f"no such name: {wanted!r}")
        self.wanted = own_copy(wanted)


class InvalidNumber(RuntimeError):
    """What is no number of the kind that is asked for."""

    def __init__(self, given):
        RuntimeError.__init__(self, f"no such number: {given!r}")
        self.given = own_copy(given)


class TooMany(OverflowError):
    """More than the limit."""

    def __init__(self, limit):
        OverflowError.__init__(self, f"more than {limit!r}")
        self.limit = own_copy(limit)


class Refused(ArithmeticError):
    """What does not exist, with the reason."""

    def __init__(self, reason):
        ArithmeticError.__init__(self, f"refused: {reason!r}")
        self.reason = own_copy(reason)


class NothingToUndo(IndexError):
    """Nothing is left to undo, or to do again."""

    def __init__(self, wanted):
        IndexError.__init__(self, f"nothing to undo: {wanted!r}")
        self.wanted = own_copy(wanted)


def own_copy(value):
    """The value, sharing no list and no dict with the one that is passed."""
    if isinstance(value, list):
        return [own_copy(item) for item in value]
    if isinstance(value, tuple):
        return tuple([own_copy(item) for item in value])
    if isinstance(value, dict):
        return {key: own_copy(value[key]) for key in value}
    return value
