"""Rows, the rules that make them of one another, and lists of rows."""

from dawnway.base.names import is_between, is_integer, is_pair
from dawnway.errors import InvalidOperation, InvalidRow
from dawnway.net.needs import is_place, is_work, need_net
from dawnway.rule.rules import is_covered, make_row, taken_by

RULES = ("joined", "early", "first", "late", "both", "sure")


def is_row(net, value):
    """Whether the value is a row of the net."""
    need_net(net)
    if not isinstance(value, tuple) or len(value) != 4:
        return False
    kind, one, other, number = value
    if not is_place(net, one) or not is_integer(number):
        return False
    if kind == "bound":
        return is_place(net, other)
    return kind == "wait" and is_work(net, other) and net.work_of(one) != other


def is_told(net, value):
    """Whether the value is a told word of the net."""
    need_net(net)
    return value in net.told


def covers(net, row, other):
    """Whether `other` is covered by `row`."""
    need_net(net)
    _need_row(net, row)
    _need_row(net, other)
    return is_covered(row, other)


def made(net, rule, row, *, other=None):
    """The row that a rule makes, or None if it makes none, or one with too long a number."""
    need_net(net)
    if rule not in RULES:
        raise InvalidOperation("no rule")
    _need_row(net, row)
    if taken_by(rule) == 2:
        _need_row(net, other)
    elif other is not None:
        raise InvalidRow("the rule takes one row")
    new = make_row(net, rule, (row, other))
    return new if new is not None and is_integer(new[3]) else None


def is_list(net, value):
    """Whether the value is a list of the net."""
    return list_fault(net, value) is None


def list_fault(net, value):
    """What bars the value from being a list first, or None."""
    need_net(net)
    if not isinstance(value, tuple):
        return "form", None
    words = {word: True for word in net.told}
    rows = []
    for index, line in enumerate(value):
        fault = _line_fault(net, words, rows, line)
        if fault is not None:
            return index, fault
        rows.append(line[0])
    if rows == [] or not _is_end(rows[-1]):
        return "end", None
    return None


def used_lines(net, lines):
    """The indices of the lines on which the last one hangs, itself among them."""
    if not is_list(net, lines):
        raise InvalidOperation("no list of the net")
    return tuple(lines_under(lines, len(lines) - 1))


def lines_under(lines, last):
    """The ascending indices of the lines on which a line hangs, itself among them."""
    used = {last: True}
    left = [last]
    while left != []:
        _, why = lines[left.pop()]
        for part in why[1:]:
            if not isinstance(part, str) and part not in used:
                used[part] = True
                left.append(part)
    return sorted(used)


def bounds_used(lines):
    """The names of the bounds that are words of the lines of a list, ascending."""
    return sorted(set([why[1] for _, why in lines if why[0] == "bound"]))


def _need_row(net, value):
    if not is_row(net, value):
        raise InvalidRow("no row of the net")


def _is_end(row):
    return row[0] == "bound" and row[1] == row[2] and row[3] <= -1


def _line_fault(net, words, rows, line):
    """What is wrong with a line behind lines of these rows, or None."""
    if not is_pair(line):
        return "form"
    if not is_row(net, line[0]):
        return "row"
    reason = _reason_row(net, words, rows, line[1])
    if reason is None:
        return "why"
    return None if is_covered(reason, line[0]) else "cover"


def _reason_row(net, words, rows, why):
    """The row that is told, or made of earlier rows, by the reason of a line, or None if that is none."""
    if not isinstance(why, tuple) or len(why) < 2 or not isinstance(why[0], str):
        return None
    if isinstance(why[1], str):
        return net.row(why) if is_pair(why) and why in words else None
    if why[0] not in RULES or len(why) != 1 + taken_by(why[0]):
        return None
    if not all([is_between(index, 0, len(rows) - 1) for index in why[1:]]):
        return None
    return make_row(net, why[0], [rows[index] for index in why[1:]])
