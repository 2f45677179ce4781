"""Times that are told ahead: all deeds get their ticks at dawn, and no course breaks anything."""

from dawnway.base.names import DAWN, is_pair
from dawnway.errors import InvalidOperation
from dawnway.net.needs import are_event_ticks, are_told_words, need_net
from dawnway.net.paths import is_ring, least_sums


def firm_row(net, word):
    """The bound of two roots that holds exactly if the told row holds in every course."""
    need_net(net)
    _, first, second, most = net.row(word)
    one, ahead = net.road(first)
    other, behind = net.road(second)
    works = net.works
    longest = sum([works[work][3] for work in behind if work not in ahead])
    shortest = sum([works[work][2] for work in ahead if work not in behind])
    return one, other, most - longest + shortest


def ahead_paper(net):
    """Any firm times, or any firm ring, with the word that tells which."""
    need_net(net)
    sums, ring = least_sums(_firm_rows(net), DAWN)
    if ring is None:
        return "times", {deed: sums[deed] for deed in net.deeds}
    words = net.told
    return "ring", tuple([words[index] for index in ring])


def is_ahead_paper(net, value):
    """Whether the value is a paper with firm times or with a firm ring."""
    need_net(net)
    if not is_pair(value):
        return False
    if value[0] == "times":
        return are_firm(net, value[1])
    return value[0] == "ring" and _is_firm_ring(net, value[1])


def are_firm(net, value):
    """Whether the value is times of all deeds with which no told row is broken, in whatever course."""
    need_net(net)
    if not _are_deed_times(net, value):
        return False
    ticks = {DAWN: 0, **value}
    return all([ticks[second] <= ticks[first] + most for first, second, most in _firm_rows(net)])


def earliest_times(net):
    """The earliest firm times, or None."""
    need_net(net)
    sums, ring = least_sums([(second, first, most) for first, second, most in _firm_rows(net)], DAWN)
    return None if ring is not None else {deed: -sums[deed] for deed in net.deeds}


def windows(net, times):
    """The least and the greatest ticks of all events over all courses, if the deeds come at these times."""
    need_net(net)
    if not _are_deed_times(net, times):
        raise InvalidOperation("no times of the deeds of the net")
    ticks = {DAWN: 0, **times}
    works = net.works
    told = {}
    for event in net.events:
        root, chain = net.road(event)
        shortest = sum([works[work][2] for work in chain])
        longest = sum([works[work][3] for work in chain])
        told[event] = (ticks[root] + shortest, ticks[root] + longest)
    return told


def _firm_rows(net):
    """The firm rows of all told ones, in the order of their words."""
    return [firm_row(net, word) for word in net.told]


def _are_deed_times(net, value):
    """Whether the value is a dict from just the deeds to ticks."""
    if not are_event_ticks(net, value):
        return False
    return len(value) == len(net.deeds) and all([deed in value for deed in net.deeds])


def _is_firm_ring(net, value):
    return are_told_words(net, value) and is_ring([firm_row(net, word) for word in value])
