"""The spans of events, from their earliest to their latest ticks, by a table."""

from dawnway.base.names import DAWN, is_integer, is_name, is_pair
from dawnway.errors import InvalidTable, UnknownName


def need_table(answer):
    """Raises InvalidTable unless the answer is a table by its form, of whatever net."""
    if not isinstance(answer, tuple) or len(answer) != 3 or answer[0] != "table":
        raise InvalidTable("no table")
    if not _are_rows(answer[1], _is_bound_key) or not _are_rows(answer[2], _is_wait_key):
        raise InvalidTable("no bounds and waits")


def span_of(answer, event):
    """The earliest and the latest tick of an event by a table: raises UnknownName if one of them is not there."""
    bounds = answer[1]
    if (event, DAWN) not in bounds or (DAWN, event) not in bounds:
        raise UnknownName(event)
    return -bounds[(event, DAWN)], bounds[(DAWN, event)]


def _are_rows(value, is_key):
    """Whether the value is a dict from keys of a kind to integers."""
    return isinstance(value, dict) and all([is_key(key) and is_integer(value[key]) for key in value])


def _is_bound_key(key):
    """Whether the key is a pair of different events, dawn among them."""
    return is_pair(key) and _is_event(key[0]) and _is_event(key[1]) and key[0] != key[1]


def _is_wait_key(key):
    """Whether the key is a pair of dawn or an event and a work."""
    return is_pair(key) and _is_event(key[0]) and is_name(key[1])


def _is_event(value):
    return value == DAWN or is_name(value)
