"""Courses against ways: a list leads to one in which any way breaks a bound of the net, or a last tick."""

from dawnway.base.names import DAWN, is_between, is_pair
from dawnway.errors import InvalidNumber, InvalidOperation, InvalidWay
from dawnway.net.needs import need_net
from dawnway.play.plays import Play, is_course, need_course, need_way, played
from dawnway.rule.rows import is_list, is_told
from dawnway.rule.rules import make_row


def broken_lines(net, lines, play):
    """The indices of the lines whose rows are broken in the play."""
    _need_lines(net, lines)
    if not isinstance(play, Play) or play.net != net:
        raise InvalidOperation("no play of the net")
    return tuple([index for index, (row, _) in enumerate(lines) if play.is_broken(row)])


def followed(net, lines, way, course, index):
    """Any course and earlier line to which a follow leads from a broken line, or None for the line of a told one."""
    _need_lines(net, lines)
    need_way(way)
    need_course(net, course)
    if not is_between(index, 0, len(lines) - 1):
        raise InvalidNumber(index)
    told = played(net, way, course)
    row, why = lines[index]
    if not told.is_broken(row):
        raise InvalidOperation("the line is not broken in the play")
    if isinstance(why[1], str):
        return told.course, None
    told, index = _follow(net, lines, way, told, index)
    return told.course, index


def course_against(net, lines, way, *, course=None):
    """Any course, and the word of a bound or a last tick that is broken in its play."""
    _need_lines(net, lines)
    need_way(way)
    if course is None:
        works = net.works
        course = {name: works[name][3] for name in works}
    need_course(net, course)
    told = played(net, way, course)
    index = len(lines) - 1
    while _beaten_words(told) == []:
        told, index = _follow(net, lines, way, told, index)
    return told.course, _beaten_words(told)[0]


def is_beaten(net, way, value):
    """Whether the value is a course and the word of a bound or a last tick that is broken in its play."""
    need_net(net)
    need_way(way)
    if not is_pair(value) or not is_course(net, value[0]) or not is_told(net, value[1]):
        return False
    return value[1] in _beaten_words(played(net, way, value[0]))


def _need_lines(net, lines):
    if not is_list(net, lines):
        raise InvalidOperation("no list of the net")


def _beaten_words(told):
    """The words of the bounds and the last ticks that are broken in a play."""
    return [word for word in told.broken if word[0] in ("bound", "last")]


def _follow(net, lines, way, told, index):
    """The play, and the earlier line, to which a follow leads from a made line that is broken in a play."""
    _, why = lines[index]
    rows = [lines[at][0] for at in why[1:]]
    new = make_row(net, why[0], rows)
    if not _has_come(net, told, new):
        # What does not come is an event of one of the rows used, too.
        return told, [at for at in why[1:] if not _has_come(net, told, lines[at][0])][0]
    course = {**told.course, **_changed_lengths(net, why[0], rows, new)}
    if course != told.course:
        told = played(net, way, course)
    for at in why[1:]:
        if told.is_broken(lines[at][0]):
            return told, at
    raise InvalidWay("the way returns other results for equal arguments")


def _has_come(net, told, row):
    """Whether all events of a row come in a play."""
    kind, one, other, _ = row
    last = other if kind == "bound" else net.works[other][0]
    ticks = told.times
    return all([event == DAWN or event in ticks for event in (one, last)])


def _changed_lengths(net, rule, rows, new):
    """The lengths with which one of the rows is broken that a rule used, if the row that it made is broken."""
    works = net.works
    if rule == "early":
        shorter = net.work_of(rows[0][1])
        return {shorter: works[shorter][2]}
    if rule in ("first", "late", "both"):
        lengths = {new[2]: works[new[2]][3]}
        if rule == "both":
            shorter = net.work_of(rows[0][1])
            lengths[shorter] = works[shorter][2]
        return lengths
    return {}
