"""What hangs on what by works and feeders, and the ticks that come of it."""

from dawnway.base.names import DAWN, is_between, is_integer, is_name, is_tick

_MAX_LOT = 30
_MAX_FEEDERS = 4


def are_works(value):
    """Whether the value is a dict from at most thirty names to tuples of two events and two lengths."""
    if not isinstance(value, dict) or len(value) > _MAX_LOT:
        return False
    return all([is_name(name) and _is_work(value[name]) for name in value])


def are_deeds(value):
    """Whether the value is a dict from at most thirty events to pairs of a due tick and feeders."""
    if not isinstance(value, dict) or len(value) > _MAX_LOT:
        return False
    return all([is_name(event) and _is_deed(value[event]) for event in value])


def hanging_order(works, deeds):
    """All events, each one behind those on which it hangs at once; None if there is no such order, or no event.

    Each event has to be one end, or a deed, and nothing may hang on what is none.
    """
    ended = {works[name][1]: name for name in works}
    if len(ended) < len(works) or any([event in ended for event in deeds]):
        return None
    left = sorted([*ended, *deeds])
    order = []
    placed = {DAWN: True}
    ready = left
    while ready != []:
        ready = [event for event in left if all([one in placed for one in next_up(works, deeds, ended, event)])]
        for event in ready:
            placed[event] = True
        order.extend(ready)
        left = [event for event in left if event not in placed]
    return None if order == [] or left != [] else tuple(order)


def next_up(works, deeds, ended, event):
    """The events, dawn among them, on which an event hangs at once."""
    if event in ended:
        return [works[ended[event]][0]]
    return [feeder for feeder, _, _ in deeds[event][1]]


def ticks_in(works, deeds, order, course):
    """The ticks of all events in a course, ascending by the events."""
    ended = {works[name][1]: name for name in works}
    ticks = {DAWN: 0}
    for event in order:
        if event in ended:
            name = ended[event]
            ticks[event] = ticks[works[name][0]] + course[name]
        else:
            ticks[event] = tick_by(deeds[event], ticks)
    return {event: ticks[event] for event in sorted(order)}


def tick_by(deed, ticks):
    """The tick of a deed if just these feeders come."""
    due, feeders = deed
    tick = due
    for feeder, walk, wait in feeders:
        here = due + wait
        if feeder in ticks:
            here = min(here, ticks[feeder] + walk)
        tick = max(tick, here)
    return tick


def _is_work(value):
    if not isinstance(value, tuple) or len(value) != 4:
        return False
    begin, end, least, most = value
    if begin != DAWN and not is_name(begin) or not is_name(end):
        return False
    return is_integer(most) and is_between(least, 1, most)


def _is_deed(value):
    if not isinstance(value, tuple) or len(value) != 2 or not is_tick(value[0]):
        return False
    feeders = value[1]
    if not isinstance(feeders, tuple) or len(feeders) > _MAX_FEEDERS or not all([_is_feeder(one) for one in feeders]):
        return False
    return len(set([event for event, _, _ in feeders])) == len(feeders)


def _is_feeder(value):
    if not isinstance(value, tuple) or len(value) != 3:
        return False
    event, walk, wait = value
    return is_name(event) and is_tick(walk) and is_tick(wait)
