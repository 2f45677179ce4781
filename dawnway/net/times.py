"""Times in some course: the day and the house want the same."""

from dawnway.base.names import DAWN, is_pair, is_tick
from dawnway.errors import InvalidOperation, Refused
from dawnway.net.needs import are_told_words, need_net, need_place
from dawnway.net.paths import is_ring, least_sums


def times_paper(net):
    """Any times of the net, or any ring, with the word that tells which."""
    need_net(net)
    sums, ring = least_sums(told_edges(net), DAWN)
    if ring is None:
        return "times", {event: sums[event] for event in net.events}
    words = net.told
    return "ring", tuple([words[index] for index in ring])


def is_times_paper(net, value):
    """Whether the value is a paper with times or with a ring."""
    need_net(net)
    if not is_pair(value):
        return False
    if value[0] == "times":
        return are_times(net, value[1])
    return value[0] == "ring" and _is_ring(net, value[1])


def are_times(net, value):
    """Whether the value is times of the net."""
    need_net(net)
    if not isinstance(value, dict) or len(value) != len(net):
        return False
    if not all([event in value and is_tick(value[event]) for event in net.events]):
        return False
    ticks = {DAWN: 0, **value}
    return all([ticks[second] <= ticks[first] + most for first, second, most in told_edges(net)])


def has_times(net):
    """Whether the net has times."""
    return times_paper(net)[0] == "times"


def earliest(net):
    """The least ticks of all times."""
    need_times(net)
    sums, _ = least_sums(_turned_edges(net), DAWN)
    return {event: -sums[event] for event in net.events}


def latest(net):
    """The greatest ticks of all times."""
    return need_times(net)


def reach(net, first, second):
    """The least and the greatest difference of two ticks over all times."""
    need_net(net)
    need_place(net, first)
    need_place(net, second)
    need_times(net)
    ahead, _ = least_sums(told_edges(net), first)
    behind, _ = least_sums(_turned_edges(net), first)
    return -behind[second], ahead[second]


def course_of(net, times):
    """The course with which the times come about."""
    if not are_times(net, times):
        raise InvalidOperation("no times of the net")
    ticks = {DAWN: 0, **times}
    works = net.works
    return {name: ticks[works[name][1]] - ticks[works[name][0]] for name in works}


def need_times(net):
    """The latest times: raises Refused with a ring if there are none."""
    kind, found = times_paper(net)
    if kind == "ring":
        raise Refused(("ring", found))
    return found


def told_edges(net):
    """The triples (first, second, most) of all told rows, in the order of their words."""
    return [net.row(word)[1:] for word in net.told]


def _turned_edges(net):
    return [(second, first, most) for first, second, most in told_edges(net)]


def _is_ring(net, value):
    if not are_told_words(net, value) or len(value) < 2:
        return False
    return is_ring([net.row(word)[1:] for word in value])
