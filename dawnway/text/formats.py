"""Texts of nets, lists, tables and beginnings."""

from dawnway.base.names import is_between, is_pair
from dawnway.errors import InvalidOperation, InvalidTable, ParseError
from dawnway.live.day import is_beginning
from dawnway.net.needs import need_net
from dawnway.net.nets import Net
from dawnway.rule.rows import RULES, is_row, is_told
from dawnway.rule.tables import is_form
from dawnway.text.words import read_line, read_words, words_of

_NET_FORMS = {
    "event": ("place", "integer"),
    "work": ("place", "place", "place", "integer", "integer", "integer"),
    "bound": ("place", "place", "place", "integer"),
}
_TABLE_FORMS = {"bound": ("place", "place", "integer"), "wait": ("place", "place", "integer")}
_DAY_FORMS = {"ahead": (), "at": ("integer",), "seen": ("integer", "place")}
_TOLD = ("bound", "last", "begin", "most", "least")


def write_net(net):
    """The text of a net."""
    need_net(net)
    lasts = net.lasts
    works = net.works
    bounds = net.bounds
    lines = [words_of(("event", event, lasts[event])) for event in lasts]
    lines.extend([words_of(("work", name, *works[name])) for name in works])
    lines.extend([words_of(("bound", name, *bounds[name])) for name in bounds])
    return "\n".join(lines)


def read_net(text):
    """The net of a text."""
    _need_text(text)
    lots = {"event": {}, "work": {}, "bound": {}}
    for index, line in enumerate(text.split("\n")):
        row = read_line(line, dict(_NET_FORMS))
        if row is None or row[1] in lots[row[0]]:
            raise ParseError(index)
        kind, name, *values = row
        lots[kind][name] = values[0] if kind == "event" else tuple(values)
    return Net(lots["event"], lots["work"], lots["bound"])


def write_list(net, lines):
    """The text of the lines of a list."""
    need_net(net)
    _need_lines(net, lines)
    return "\n".join([words_of(("line", *row, *why)) for row, why in lines])


def read_list(net, text):
    """The lines of a text."""
    need_net(net)
    _need_text(text)
    lines = tuple(_rows_of(text, _read_list_line))
    _need_lines(net, lines)
    return lines


def write_table(net, bounds, waits):
    """The text of a table."""
    need_net(net)
    _need_table(net, bounds, waits)
    lines = [words_of(("bound", *pair, bounds[pair])) for pair in sorted(bounds)]
    lines.extend([words_of(("wait", *pair, waits[pair])) for pair in sorted(waits)])
    return "\n".join(lines)


def read_table(net, text):
    """The bounds and the waits of a text."""
    need_net(net)
    _need_text(text)
    rows = _rows_of(text, _read_table_line)
    _need_order([row[:3] for row in rows])
    bounds = {(first, second): most for kind, first, second, most in rows if kind == "bound"}
    waits = {(event, work): wait for kind, event, work, wait in rows if kind == "wait"}
    _need_table(net, bounds, waits)
    return bounds, waits


def write_day(net, tick, seen):
    """The text of a beginning up to the tick."""
    need_net(net)
    _need_beginning(net, tick, seen)
    lines = ["ahead" if tick is None else words_of(("at", tick))]
    lines.extend([words_of(("seen", *pair)) for pair in seen])
    return "\n".join(lines)


def read_day(net, text):
    """The tick and the beginning of a text."""
    need_net(net)
    _need_text(text)
    rows = _rows_of(text, _read_day_line)
    _need_order([(1, *row[1:]) if row[0] == "seen" else (0,) for row in rows])
    if rows == [] or rows[0][0] == "seen":
        raise ParseError(0)
    tick = None if rows[0][0] == "ahead" else rows[0][1]
    seen = tuple([(at, event) for _, at, event in rows[1:]])
    _need_beginning(net, tick, seen)
    return tick, seen


def _rows_of(text, read):
    """The rows of the lines of a text; the empty text has none."""
    rows = []
    for index, line in enumerate([] if text == "" else text.split("\n")):
        row = read(line)
        if row is None:
            raise ParseError(index)
        rows.append(row)
    return rows


def _read_list_line(line):
    """The row and the reason of a line, or None."""
    words = line.split(" ")
    row = read_words(words[:5], (("line",), ("bound", "wait"), "place", "place", "integer"))
    for form in ((_TOLD, "place"), (RULES, "integer"), (RULES, "integer", "integer")):
        why = read_words(words[5:], form)
        if row is not None and why is not None:
            return tuple(row[1:]), tuple(why)
    return None


def _read_table_line(line):
    return read_line(line, dict(_TABLE_FORMS))


def _read_day_line(line):
    return read_line(line, dict(_DAY_FORMS))


def _need_text(text):
    if not isinstance(text, str):
        raise ParseError(None)


def _need_order(keys):
    """Raises ParseError for the first line that does not stand behind all earlier ones."""
    for index in range(1, len(keys)):
        if keys[index] <= keys[index - 1]:
            raise ParseError(index)


def _need_lines(net, lines):
    if not isinstance(lines, tuple) or not all([is_pair(line) for line in lines]):
        raise InvalidOperation("no tuple of lines")
    if not all([is_row(net, row) and _is_reason(net, why, len(lines)) for row, why in lines]):
        raise InvalidOperation("no rows of the net with their reasons")


def _is_reason(net, value, many):
    """Whether the value is a told word, or a rule's word with one or two indices of so many lines."""
    if is_told(net, value):
        return True
    if not isinstance(value, tuple) or len(value) not in (2, 3) or value[0] not in RULES:
        return False
    return all([is_between(index, 0, many - 1) for index in value[1:]])


def _need_table(net, bounds, waits):
    if not is_form(net, (bounds, waits)):
        raise InvalidTable("no bounds and waits of the net")


def _need_beginning(net, tick, seen):
    if not is_beginning(net, tick, seen):
        raise InvalidOperation("no beginning of the net")
