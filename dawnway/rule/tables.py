"""Closed tables: whoever walks one keeps every promise, whatever the lengths turn out to be."""

from dawnway.base.names import is_integer, is_pair
from dawnway.errors import InvalidOperation, InvalidTable
from dawnway.net.needs import is_place, is_work, need_net, need_place, need_work
from dawnway.rule.closing import closing_of
from dawnway.rule.gaps import made_fault, told_fault
from dawnway.rule.rows import is_list


def is_form(net, value):
    """Whether the value is a pair of dicts of bounds and of waits."""
    need_net(net)
    return is_pair(value) and _are_bounds(net, value[0]) and _are_waits(net, value[1])


def table_fault(net, bounds, waits):
    """What bars the table from being closed first, or None."""
    if not is_form(net, (bounds, waits)):
        raise InvalidTable("no bounds and waits of the net")
    fault = told_fault(net, bounds, waits)
    if fault is None:
        fault = made_fault(net, bounds, waits)
    return fault


def is_closed(net, value):
    """Whether the value is a closed table."""
    return is_form(net, value) and table_fault(net, value[0], value[1]) is None


def answer(net):
    """Any closed table, or any list, with the word that tells which."""
    need_net(net)
    closing = closing_of(net)
    rows = closing.as_table()
    if rows is None:
        return "list", closing.as_list()
    return "table", rows[0], rows[1]


def is_answer(net, value):
    """Whether the value is a closed table, or a list, with the word that tells which."""
    need_net(net)
    if not isinstance(value, tuple) or len(value) < 2:
        return False
    if value[0] == "table":
        return is_closed(net, value[1:])
    return value[0] == "list" and len(value) == 2 and is_list(net, value[1])


def is_safe(net):
    """Whether there is a closed table."""
    return closure(net) is not None


def closure(net):
    """The bounds and the waits of the closure, or None if there is no closed table."""
    need_net(net)
    return closing_of(net).as_table()


def tightest(net, first, second):
    """The number of the closure's bound for two events."""
    need_net(net)
    need_place(net, first)
    need_place(net, second)
    if first == second:
        raise InvalidOperation("a bound has two different events")
    return _need_closure(net)[0][(first, second)]


def needed_wait(net, event, work):
    """The number of the closure's wait, or None if the event is the end of the work."""
    need_net(net)
    need_place(net, event)
    need_work(net, work)
    return _need_closure(net)[1].get((event, work))


def _need_closure(net):
    rows = closure(net)
    if rows is None:
        raise InvalidOperation("the net has no closed table")
    return rows


def _are_bounds(net, value):
    """Whether the value is a dict from pairs of different events, dawn among them, to integers."""
    if not isinstance(value, dict):
        return False
    for pair in value:
        if not is_pair(pair) or not is_place(net, pair[0]) or not is_place(net, pair[1]):
            return False
        if pair[0] == pair[1] or not is_integer(value[pair]):
            return False
    return True


def _are_waits(net, value):
    """Whether the value is a dict from pairs of an event and a work that it does not end to integers."""
    if not isinstance(value, dict):
        return False
    for pair in value:
        if not is_pair(pair) or not is_place(net, pair[0]) or not is_work(net, pair[1]):
            return False
        if net.work_of(pair[0]) == pair[1] or not is_integer(value[pair]):
            return False
    return True
