"""Bags in windows of ticks: which stretches are crowded, and which bags a belt can take."""


def ticks_of(stretch):
    """The number of the ticks of a stretch."""
    first, last = stretch
    return last - first + 1


def is_within(window, stretch):
    """Whether the window lies within the stretch."""
    return stretch[0] <= window[0] and window[1] <= stretch[1]


def bound_bags(windows, counts, stretch):
    """The number of the bags that are bound to the stretch."""
    return sum([many for window, many in zip(windows, counts) if is_within(window, stretch)])


def stretches_of(windows):
    """The stretches from a begin of a window to an end of one: no others have to be looked at."""
    begins = sorted(set([begin for begin, _ in windows]))
    ends = sorted(set([end for _, end in windows]))
    return [(begin, end) for begin in begins for end in ends if begin <= end]


def planned(windows, counts, room):
    """The plan that puts on the bags with the earliest ends first. It is in time if any plan is."""
    left = list(counts)
    plan = []
    tick = 0
    while any([many > 0 for many in left]):
        waiting = [lot for lot, many in enumerate(left) if many > 0]
        tick = max(tick, min([windows[lot][0] for lot in waiting]))
        free = room
        for _, lot in sorted([(windows[lot][1], lot) for lot in waiting if windows[lot][0] <= tick]):
            many = min(free, left[lot])
            if many > 0:
                plan.append((tick, lot, many))
                left[lot] -= many
                free -= many
        tick += 1
    return tuple(sorted(plan))


def chosen_bags(windows, lots, room):
    """How many bags of each lot are put on so that the least worth is left, and full stretches.

    The bags with the greatest worth are chosen first, each one with which a plan of the chosen ones is
    left. For each lot of which not all are chosen there is a stretch that has no room for one more.
    """
    slacks = {stretch: room * ticks_of(stretch) for stretch in stretches_of(windows)}
    counts = [0] * len(lots)
    full = {}
    for _, lot in sorted([(-worth, lot) for lot, (_, _, _, _, worth) in enumerate(lots)]):
        around = [stretch for stretch in slacks if is_within(windows[lot], stretch)]
        counts[lot] = min([lots[lot][3], *[slacks[stretch] for stretch in around]])
        for stretch in around:
            slacks[stretch] -= counts[lot]
        if counts[lot] < lots[lot][3]:
            full[lot] = [stretch for stretch in around if slacks[stretch] == 0][0]
    return counts, full


def merged(stretches):
    """The ascending stretches that these make, if those that meet are made one."""
    found = []
    for first, last in sorted(stretches):
        if found != [] and first <= found[-1][1]:
            found[-1] = (found[-1][0], max(found[-1][1], last))
        else:
            found.append((first, last))
    return tuple(found)


def spreads_of(lots):
    """For each flight with lots, triples (ahead, behind, many): so many bags have windows between both."""
    spreads = {}
    for flight in sorted(set([lot[0] for lot in lots])):
        own = [lot for lot in lots if lot[0] == flight]
        aheads = sorted(set([ahead for _, ahead, _, _, _ in own]))
        behinds = sorted(set([behind for _, _, behind, _, _ in own]))
        told = [(ahead, behind, _many_between(own, ahead, behind)) for ahead in aheads for behind in behinds]
        spreads[flight] = [spread for spread in told if spread[2] > 0]
    return spreads


def crowded(flights, spreads):
    """Triples (first, last, many): ready ticks can bind so many bags to this stretch.

    With more bags bound, the begin of a stretch with the greatest excess is the latest one that leaves
    them bound, and its end the earliest one then: so these stretches are enough, for each room.
    """
    firsts = sorted(set([flights[flight][1] + ahead for flight in spreads for ahead, _, _ in spreads[flight]]))
    return [triple for first in firsts for triple in _crowded_from(flights, spreads, first)]


def worst_ready(flights, spreads, stretch):
    """The ready ticks with which the most bags are bound to the stretch."""
    first, last = stretch
    ready = {}
    for flight in flights:
        least, greatest = flights[flight]
        found = [(0, least)]
        for ahead, behind, many in spreads.get(flight, []):
            tick = max(least, first - ahead)
            if tick <= greatest and tick + behind <= last:
                found.append((many, tick))
        ready[flight] = max(found)[1]
    return ready


def _many_between(lots, ahead, behind):
    return sum([many for _, begin, end, many, _ in lots if ahead <= begin and end <= behind])


def _crowded_from(flights, spreads, first):
    """The triples of the stretches that begin at a tick."""
    steps = []
    for flight in spreads:
        least, greatest = flights[flight]
        for ahead, behind, many in spreads[flight]:
            if first <= greatest + ahead:
                steps.append((max(least, first - ahead) + behind, flight, many))
    best = {flight: 0 for flight in spreads}
    found = [(first, first, 0)]
    for last, flight, many in sorted(steps):
        if many > best[flight]:
            best[flight] = many
            found.append((first, last, sum([best[name] for name in best])))
    return found
