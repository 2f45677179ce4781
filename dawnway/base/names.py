"""Integers, names, ticks and tuples of what is seen."""

from dawnway.errors import InvalidName, InvalidNumber, InvalidOperation

DAWN = "dawn"
MAX_LETTERS = 12
MAX_TICK = 10 ** 34
MAX_LENGTH = 10 ** 30
MAX_LOOK = 20

_FIRST_LETTERS = "abcdefghijklmnopqrstuvwxyz"
_LETTERS = "abcdefghijklmnopqrstuvwxyz0123456789."
_TOO_LONG = 10 ** 40


def is_integer(value):
    """Whether the value is an integer of at most forty digits; True and False are none."""
    return is_between(value, 1 - _TOO_LONG, _TOO_LONG - 1)


def is_between(value, least, most):
    """Whether the value is an integer from `least` to `most`; True and False are none."""
    return isinstance(value, int) and not isinstance(value, bool) and least <= value <= most


def is_name(value):
    """Whether the value is a name."""
    if not isinstance(value, str) or not 1 <= len(value) <= MAX_LETTERS or value == DAWN:
        return False
    return value[0] in _FIRST_LETTERS and all([letter in _LETTERS for letter in value])


def is_tick(value):
    """Whether the value is a tick."""
    return is_between(value, 0, MAX_TICK)


def is_ascending(values):
    """Whether each value is less than the next one."""
    return all([values[at] < values[at + 1] for at in range(len(values) - 1)])


def is_names(value):
    """Whether the value is an ascending tuple of names."""
    return isinstance(value, tuple) and all([is_name(item) for item in value]) and is_ascending(value)


def is_pair(value):
    """Whether the value is a tuple of two."""
    return isinstance(value, tuple) and len(value) == 2


def is_seen(value):
    """Whether the value is an ascending tuple of pairs of a tick and a name, each name once."""
    if not isinstance(value, tuple) or not all([is_pair(item) for item in value]):
        return False
    if not all([is_tick(tick) and is_name(name) for tick, name in value]):
        return False
    return is_ascending(value) and len(value) == len(set([name for _, name in value]))


def seen_until(seen, tick):
    """The seen pairs whose ticks are at most `tick`."""
    _need_seen(seen)
    if not is_tick(tick):
        raise InvalidNumber(tick)
    return tuple([pair for pair in seen if pair[0] <= tick])


def tick_of(seen, name):
    """The tick of the seen pair with this name, or None."""
    _need_seen(seen)
    if not is_name(name):
        raise InvalidName("no name")
    for tick, other in seen:
        if other == name:
            return tick
    return None


def _need_seen(seen):
    if not is_seen(seen):
        raise InvalidOperation("nothing that is seen: an ascending tuple of ticks with names, each name once")
