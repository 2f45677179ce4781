"""Halves of a day: two nets that promise one another in which windows their common events come."""

from dawnway.base.names import DAWN, MAX_LENGTH, is_between, is_pair, is_tick
from dawnway.base.search import greatest_good, least_good
from dawnway.errors import InvalidNumber, InvalidOperation, TooMany, UnknownName
from dawnway.net.faults import works_fault
from dawnway.net.needs import need_event, need_net
from dawnway.net.nets import MAX_BOUNDS, MAX_EVENTS, MAX_WORKS, Net
from dawnway.rule.closing import closing_of
from dawnway.rule.rows import is_list
from dawnway.rule.tables import answer, is_closed, is_safe


def are_halves(one, other):
    """Whether two nets are halves of a day."""
    need_net(one)
    need_net(other)
    works = one.works
    bounds = one.bounds
    if any([name in works for name in other.works]) or any([name in bounds for name in other.bounds]):
        return False
    if not all([_is_guest(one, event) or _is_guest(other, event) for event in _common(one, other)]):
        return False
    # Of a whole that is no net only works can be the fault, as all events of its bounds are there.
    lasts, works, _ = _whole_parts(one, other)
    return works_fault(lasts, works, len(works)) is None


def windows(one, other):
    """The owners of the common events, and their windows, and whether these are promised."""
    _need_halves(one, other)
    return {event: _window(one, other, event) for event in _common(one, other)}


def whole(one, other):
    """The whole of two halves."""
    _need_halves(one, other)
    lasts, works, bounds = _whole_parts(one, other)
    for lot, limit in ((lasts, MAX_EVENTS), (works, MAX_WORKS), (bounds, MAX_BOUNDS)):
        if len(lot) > limit:
            raise TooMany(limit)
    return Net(lasts, works, bounds)


def halves_paper(one, other):
    """Any tables of both halves if all windows are promised, or any list of one of them, or an open window."""
    event = _open_event(windows(one, other))
    if event is not None:
        return "open", event
    tables = []
    for half, net in enumerate((one, other)):
        told = answer(net)
        if told[0] == "list":
            return "list", half, told[1]
        tables.append(told[1:])
    return "table", tables[0], tables[1]


def is_halves_paper(one, other, value):
    """Whether the value is a paper of the halves."""
    event = _open_event(windows(one, other))
    if is_pair(value):
        return event is not None and value[0] == "open" and value[1] == event
    if not isinstance(value, tuple) or len(value) != 3:
        return False
    word, left, right = value
    if word == "table":
        return event is None and is_closed(one, left) and is_closed(other, right)
    return word == "list" and is_between(left, 0, 1) and is_list(other if left == 1 else one, right)


def narrowed(net, event, low, high):
    """The net with two bounds more: the event comes within a window."""
    need_net(net)
    need_event(net, event)
    _need_low(low)
    if not is_tick(high) or high < low:
        raise InvalidNumber(high)
    _need_free_names(net, event)
    first, last = _window_names(net, event)
    return net.with_bounds({first: (event, DAWN, -low), last: (DAWN, event, high)})


def guested(net, work, low, high):
    """The net with another window of a guest."""
    _need_guest(net, work, low)
    if not is_between(high, low, MAX_LENGTH):
        raise InvalidNumber(high)
    return net.with_lengths({work: (low, high)})


def least_high(net, event, low):
    """The least last tick of a window that the net can promise, or None."""
    need_net(net)
    need_event(net, event)
    _need_low(low)
    _need_free_names(net, event)
    first, last = _window_names(net, event)
    closing = closing_of(net.with_bounds({first: (event, DAWN, -low)}))
    if closing.is_barred():
        return None
    # With the latest tick of the closure nothing more is asked; and none below the earliest one can be.
    least, most = -closing.number(event, DAWN), closing.number(DAWN, event)
    word = ("bound", last)
    return least_good(lambda high: not closing.beside(DAWN, event, high, word).is_barred(), least, most)


def greatest_high(net, work, low):
    """The greatest last tick of a guest's window with which the net is safe, or None."""
    _need_guest(net, work, low)
    if not is_safe(net.with_lengths({work: (low, low)})):
        return None
    return greatest_good(lambda high: is_safe(net.with_lengths({work: (low, high)})), low, net.lasts[work])


def fitting(one, other, event, low):
    """The least and the greatest last tick of a window that one half can promise and the other one needs, or None."""
    told = windows(one, other)
    if not isinstance(event, str) or event not in told or told[event][0] != 0:
        raise UnknownName(event)
    if not is_tick(low) or low == 0:
        raise InvalidNumber(low)
    _need_free_names(one, event)
    if low > MAX_LENGTH or _look_at(one, event) > told[event][3]:
        return None
    least = least_high(one, event, low)
    greatest = greatest_high(other, event, low)
    if least is None or greatest is None or least > greatest:
        return None
    return least, greatest


def _common(one, other):
    """The events that both nets have, ascending."""
    return [event for event in one.events if event in other]


def _is_guest(net, event):
    """Whether the event is the end of a work from dawn that has its name."""
    works = net.works
    return event in works and works[event][:2] == (DAWN, event)


def _whole_parts(one, other):
    """The last ticks, the works and the bounds of the whole, of whatever size."""
    lasts = {**one.lasts, **other.lasts}
    works = {**one.works, **other.works}
    for event in _common(one, other):
        lasts[event] = min(one.lasts[event], other.lasts[event])
    guests = {event: True for event in _common(one, other)}
    return lasts, {name: works[name] for name in works if name not in guests}, {**one.bounds, **other.bounds}


def _need_halves(one, other):
    if not are_halves(one, other):
        raise InvalidOperation("no halves of a day")


def _window(one, other, event):
    """The owner of a common event, its window, its look, and whether the owner promises it."""
    owner, guest, half = (one, other, 0) if _is_guest(other, event) else (other, one, 1)
    _, _, least, most, look = guest.works[event]
    bounds = owner.bounds
    told = [bounds[name] for name in bounds]
    in_time = any([told_bound[:2] == (DAWN, event) and told_bound[2] <= most for told_bound in told])
    not_early = any([told_bound[:2] == (event, DAWN) and told_bound[2] <= -least for told_bound in told])
    return half, least, most, look, in_time and not_early and _look_at(owner, event) <= look


def _look_at(net, event):
    """How late an event is seen in its net."""
    work = net.work_of(event)
    return 0 if work is None else net.works[work][4]


def _open_event(told):
    """The first event whose window is not promised, or None."""
    for event in told:
        if not told[event][4]:
            return event
    return None


def _window_names(net, event):
    """The names of the bounds that narrow an event."""
    index = net.events.index(event)
    return f"low.{index}", f"high.{index}"


def _need_low(low):
    if not is_tick(low):
        raise InvalidNumber(low)


def _need_free_names(net, event):
    """Raises the errors of a net that cannot take the bounds that narrow an event."""
    bounds = net.bounds
    if any([name in bounds for name in _window_names(net, event)]):
        raise InvalidOperation("a bound of the net has a name of the bounds of a window")
    if len(bounds) + 2 > MAX_BOUNDS:
        raise TooMany(MAX_BOUNDS)


def _need_guest(net, work, low):
    """Raises the errors of what is no work of a guest, or no first tick of its window."""
    need_net(net)
    if not isinstance(work, str) or not _is_guest(net, work):
        raise UnknownName(work)
    if not is_between(low, 1, MAX_LENGTH):
        raise InvalidNumber(low)
