"""Weather: places that close, and flights that are freed of ice, for as long as that takes."""

from dawnway.base.names import DAWN, MAX_LENGTH, MAX_LOOK, is_between, is_name
from dawnway.base.search import greatest_good
from dawnway.errors import InvalidDay, InvalidName, InvalidNumber, UnknownName
from dawnway.net.needs import need_place
from dawnway.net.nets import Net, net_fault
from dawnway.parts.days import Day, need_day, need_deal, net_of
from dawnway.rule.tables import answer, is_answer, is_safe

_CLOSED = "closed"
_ICING = "icing"
_MAX_OWN_LETTERS = 10
_NAMES_OF_MADE_BOUNDS = ("use", "gap", "case")


def with_closing(day, name, place, begin, least, most, *, look=0, gap=0):
    """The day with one closing more."""
    need_day(day)
    _need_new_name(day, name, ("",))
    _need_day_place(day, place)
    _need_between(begin, 0, MAX_LENGTH)
    _need_lengths(least, most)
    _need_between(look, 0, MAX_LOOK)
    _need_between(gap, 0, MAX_LENGTH)
    first, last = _events_of(name)
    lasts = {first: begin, last: begin + most}
    bounds = {name: (first, DAWN, 0 - begin)}
    use = (place, first, last, _CLOSED)
    return _grown(day, name, lasts, (first, last, least, most, look), bounds, use, _closing_gaps(day, place, gap))


def with_icing(day, name, pad, after, off, least, most, hold, *, look=0):
    """The day with one icing more."""
    need_day(day)
    _need_new_name(day, name, ("", ".c", ".f"))
    _need_day_place(day, pad)
    need_place(day.net, after)
    if off not in day.net:
        raise UnknownName(off)
    _need_lengths(least, most)
    _need_between(hold, 0, MAX_LENGTH)
    _need_between(look, 0, MAX_LOOK)
    first, last = _events_of(name)
    until = day.net.lasts[off]
    bounds = {name: (last, off, hold), name + ".c": (off, last, 0), name + ".f": (first, after, 0)}
    use = (pad, first, last, _ICING)
    return _grown(day, name, {first: until, last: until}, (first, last, least, most, look), bounds, use, {})


def longest_closing(day, deal, name):
    """The longest most of a closing, with a table for it, and a list for one tick more."""
    told = _closing_range(day, deal, name)
    return _extreme(*told)


def is_longest(day, deal, name, value):
    """Whether the value is the longest most of a closing with such a table and such a list."""
    told = _closing_range(day, deal, name)
    return _is_extreme(value, *told)


def least_hold(day, deal, name):
    """The least hold of an icing, with a table for it, and a list for one tick less."""
    told = _hold_range(day, deal, name)
    return _extreme(*told)


def is_least_hold(day, deal, name, value):
    """Whether the value is the least hold of an icing with such a table and such a list."""
    told = _hold_range(day, deal, name)
    return _is_extreme(value, *told)


def latest_look(day, deal, name):
    """The latest look at the end of a closing or an icing, with a table for it, and a list for one tick more."""
    told = _look_range(day, deal, name)
    return _extreme(*told)


def is_latest(day, deal, name, value):
    """Whether the value is the latest look with such a table and such a list."""
    told = _look_range(day, deal, name)
    return _is_extreme(value, *told)


def _events_of(name):
    return name + ".a", name + ".z"


def _need_new_name(day, name, ends):
    """Raises InvalidName unless events, a work, a use and bounds with these ends can be called so."""
    if not is_name(name) or len(name) > _MAX_OWN_LETTERS or name in _NAMES_OF_MADE_BOUNDS:
        raise InvalidName("no name of at most ten characters that is free")
    bounds = day.net.bounds
    if any([event in day.net for event in _events_of(name)]) or any([name + end in bounds for end in ends]):
        raise InvalidName("an event or a bound has such a name")
    if name in day.net.works or name in day.uses:
        raise InvalidName("a work or a use has this name")


def _need_day_place(day, place):
    if place not in day.places:
        raise UnknownName(place)


def _need_between(value, least, most):
    if not is_between(value, least, most):
        raise InvalidNumber(value)


def _need_lengths(least, most):
    _need_between(least, 1, MAX_LENGTH)
    _need_between(most, least, MAX_LENGTH)


def _closing_gaps(day, place, gap):
    """The gaps between a new closing and each kind of the place, if none are told."""
    told = day.gaps
    uses = day.uses
    if gap == 0 or any([key[0] == place and _CLOSED in key[1:] for key in told]):
        return {}
    kinds = [_CLOSED, *[uses[name][3] for name in day.uses_of(place)]]
    gaps = {(place, _CLOSED, kind): gap for kind in kinds}
    for kind in kinds:
        gaps[(place, kind, _CLOSED)] = gap
    return gaps


def _grown(day, name, lasts, work, bounds, use, gaps):
    """The day with two events, a work, bounds and a use more."""
    net = day.net
    parts = ({**net.lasts, **lasts}, {**net.works, name: work}, {**net.bounds, **bounds})
    if net_fault(*parts) is not None:
        raise InvalidDay("there is no such net")
    told = day.gaps
    for key in gaps:
        told[key] = gaps[key]
    return Day(Net(*parts), day.places, uses={**day.uses, name: use}, gaps=told, promises=day.promises)


def _work_of_use(day, name, kinds):
    """The work from the first to the last event of a use of one of these kinds: raises UnknownName if it is none."""
    uses = day.uses
    if not isinstance(name, str) or name not in uses or uses[name][3] not in kinds:
        raise UnknownName(name)
    _, first, last, kind = uses[name]
    bounds = day.net.bounds
    work = day.net.work_of(last)
    if work is None or day.net.works[work][0] != first:
        raise UnknownName(name)
    if kind == _ICING and (name not in bounds or bounds[name][0] != last):
        raise UnknownName(name)
    return work


def _closing_range(day, deal, name):
    """The nets by the most of a closing, the best most twice, and the worst one."""
    need_deal(day, deal)
    work = _work_of_use(day, name, (_CLOSED,))
    net = net_of(day, deal)
    _, end, least, most, _ = net.works[work]
    last = net.lasts[end]
    return lambda number: _with_most(net, work, number), least, least, min(MAX_LENGTH, most + MAX_LENGTH - last)


def _with_most(net, work, number):
    """The net with another most of a work; the last tick of its end changes by as much."""
    _, end, least, most, _ = net.works[work]
    last = max(0, net.lasts[end] + number - most)
    return net.with_lengths({work: (least, number)}).with_lasts({end: last})


def _hold_range(day, deal, name):
    """The nets by the hold of an icing, the best hold, one that lets as much, and the worst one."""
    need_deal(day, deal)
    _work_of_use(day, name, (_ICING,))
    net = net_of(day, deal)
    first, second, _ = net.bounds[name]
    # Behind the last ticks no hold asks for anything.
    return lambda number: net.with_bounds({name: (first, second, number)}), MAX_LENGTH, net.horizon, 0


def _look_range(day, deal, name):
    """The nets by the look at the end of a use, the best look twice, and the worst one."""
    need_deal(day, deal)
    work = _work_of_use(day, name, (_CLOSED, _ICING))
    net = net_of(day, deal)
    works = net.works
    worst = MAX_LOOK
    if works[work][1] in [works[other][0] for other in works]:
        worst = 0
    return lambda number: net.with_looks({work: number}), 0, 0, worst


def _extreme(net_by, best, near, worst):
    """The number next to the worst one with which a net is safe, a table for it, and a list for the next one.

    The number `near` lets as much as the best one does.
    """
    if not is_safe(net_by(best)):
        return None, None, answer(net_by(best))
    step = 1 if best <= worst else -1
    many = greatest_good(lambda steps: is_safe(net_by(near + step * steps)), 0, abs(worst - near))
    number = near + step * many
    beyond = None if number == worst else answer(net_by(number + step))
    return number, answer(net_by(number)), beyond


def _is_extreme(value, net_by, best, _, worst):
    """Whether the value is such a number with a table and a list."""
    if not isinstance(value, tuple) or len(value) != 3:
        return False
    number, told, beyond = value
    if number is None:
        return told is None and _is_told(net_by(best), "list", beyond)
    if not is_between(number, min(best, worst), max(best, worst)) or not _is_told(net_by(number), "table", told):
        return False
    if number == worst:
        return beyond is None
    return _is_told(net_by(number + (1 if best <= worst else -1)), "list", beyond)


def _is_told(net, word, value):
    """Whether the value is an answer of the net with this word."""
    return is_answer(net, value) and value[0] == word
