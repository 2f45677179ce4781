"""What bars lasts, works and bounds from being a net."""

from dawnway.base.names import DAWN, MAX_LENGTH, MAX_LOOK, is_between, is_integer, is_name


def are_lasts(value, limit):
    """Whether the value is a dict from names, at least one, to last ticks."""
    if not isinstance(value, dict) or not 1 <= len(value) <= limit:
        return False
    return all([is_name(name) and is_between(value[name], 0, MAX_LENGTH) for name in value])


def works_fault(lasts, works, limit):
    """The first fault of the works beside these last ticks, or None."""
    if not _is_lot(works, limit):
        return ("works",)
    for name in sorted(works):
        if not _is_work(lasts, works[name]):
            return "work", name
    ended = {}
    for name in sorted(works):
        if works[name][1] in ended:
            return "ends", name
        ended[works[name][1]] = name
    return _chain_fault(works, ended)


def _chain_fault(works, ended):
    """The first fault of works that begin by ends, where each event is at most one end."""
    for name in sorted(works):
        if _goes_round(works, ended, name):
            return "ring", name
    for name in sorted(works):
        ahead = ended.get(works[name][0])
        if ahead is not None and works[ahead][4] > 0:
            return "look", name
    return None


def bounds_fault(lasts, bounds, limit):
    """The first fault of the bounds beside these last ticks, or None."""
    if not _is_lot(bounds, limit):
        return ("bounds",)
    for name in sorted(bounds):
        if not _is_bound(lasts, bounds[name]):
            return "bound", name
    return None


def _is_lot(value, limit):
    """Whether the value is `()`, or a dict with names as keys, at most so many."""
    if isinstance(value, tuple):
        return len(value) == 0
    return isinstance(value, dict) and len(value) <= limit and all([is_name(name) for name in value])


def _is_known(lasts, value):
    return isinstance(value, str) and (value == DAWN or value in lasts)


def _is_work(lasts, value):
    if not isinstance(value, tuple) or len(value) != 5:
        return False
    begin, end, least, most, look = value
    if not _is_known(lasts, begin) or not _is_known(lasts, end) or end == DAWN or begin == end:
        return False
    if not is_between(least, 1, MAX_LENGTH) or not is_between(most, 1, MAX_LENGTH):
        return False
    return least <= most and is_between(look, 0, MAX_LOOK)


def _goes_round(works, ended, name):
    """Whether one comes back to the end of the work by going from ends to begins."""
    event = works[name][0]
    # A ring elsewhere may never lead back to this end: as many steps as works show it.
    for _ in range(len(works)):
        if event == works[name][1]:
            return True
        if event not in ended:
            return False
        event = works[ended[event]][0]
    return False


def _is_bound(lasts, value):
    if not isinstance(value, tuple) or len(value) != 3:
        return False
    first, second, most = value
    return _is_known(lasts, first) and _is_known(lasts, second) and first != second and is_integer(most)
