"""Nets without works: the numbers that tell just their times, and bounds that add nothing."""

from dawnway.base.names import DAWN, is_integer
from dawnway.errors import InvalidNumber, InvalidOperation, TooMany
from dawnway.net.needs import need_net, need_place
from dawnway.net.nets import MAX_BOUNDS, Net
from dawnway.net.paths import exits_of, least_sums, sums_beside
from dawnway.net.times import told_edges, times_paper


def least_net(net):
    """The greatest differences of all pairs of events over all times, or None without times."""
    _need_bare(net)
    kind, times = times_paper(net)
    if kind == "ring":
        return None
    edges = told_edges(net)
    exits = exits_of(edges)
    ticks = {DAWN: 0, **times}
    least = {}
    for first in sorted(ticks):
        sums = sums_beside(edges, exits, ticks, first)
        for second in sorted(ticks):
            if second != first:
                least[(first, second)] = sums[second]
    return least


def is_least_net(net, value):
    """Whether the value is the least net."""
    _need_bare(net)
    if not isinstance(value, dict) or not all([is_integer(value[pair]) for pair in value]):
        return False
    return value == least_net(net)


def let_same(one, other):
    """Whether both nets have the same times."""
    _need_alike(one, other)
    return least_net(one) == least_net(other)


def parting_times(one, other):
    """Any times of one of both nets alone, or None."""
    _need_alike(one, other)
    found = _stray_times(one, other)
    if found is None:
        found = _stray_times(other, one)
    return found


def follows(net, first, second, most):
    """Whether all times of the net keep the bound."""
    _need_bare(net)
    need_place(net, first)
    need_place(net, second)
    if first == second:
        raise InvalidOperation("a bound has two different events")
    if not is_integer(most):
        raise InvalidNumber(most)
    return _is_kept(told_edges(net), first, second, most)


def idle_bounds(net):
    """The names of the bounds that follow from the net without them."""
    _need_bare(net)
    return tuple([name for name in net.bounds if _is_idle(net, name)])


def trimmed(net):
    """The net without the bounds that are idle in what is left, looked at by their names."""
    _need_bare(net)
    left = net
    for name in net.bounds:
        if _is_idle(left, name):
            left = left.without(name)
    return left


def free_net(net):
    """The bare net with two bounds in the place of each work."""
    need_net(net)
    works = net.works
    bounds = net.bounds
    if len(bounds) + 2 * len(works) > MAX_BOUNDS:
        raise TooMany(MAX_BOUNDS)
    freed = {}
    for index, name in enumerate(works):
        begin, end, least, most, _ = works[name]
        freed[f"most.{index}"] = (begin, end, most)
        freed[f"least.{index}"] = (end, begin, -least)
    if any([name in bounds for name in freed]):
        raise InvalidOperation("a bound has the name of a bound in the place of a work")
    return Net(net.lasts, (), {**bounds, **freed})


def _need_bare(net):
    need_net(net)
    if net.works != {}:
        raise InvalidOperation("a net with works")


def _need_alike(one, other):
    _need_bare(one)
    _need_bare(other)
    if one.events != other.events:
        raise InvalidOperation("nets with different events")


def _stray_times(one, other):
    """Any times of the first net that are none of the second one, or None."""
    least = least_net(one)
    if least is None:
        return None
    for first, second, most in told_edges(other):
        if least[(first, second)] > most:
            return _times_apart(one, first, second, least[(first, second)])
    return None


def _times_apart(net, first, second, difference):
    """Times of the net with just this difference, the greatest one, of the ticks of two events."""
    sums, _ = least_sums([*told_edges(net), (second, first, -difference)], DAWN)
    return {event: sums[event] for event in net.events}


def _is_kept(edges, first, second, most):
    """Whether all times that keep the edges keep the bound; also if there are none."""
    sums, ring = least_sums(edges, first)
    return ring is not None or sums[second] <= most


def _is_idle(net, name):
    """Whether the bound follows from the net without it."""
    edges = [net.row(word)[1:] for word in net.told if word != ("bound", name)]
    first, second, most = net.bounds[name]
    return _is_kept(edges, first, second, most)
