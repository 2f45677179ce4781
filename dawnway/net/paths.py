"""Least sums along bounds, and rings of bounds whose sum is below 0."""

from heapq import heappop, heappush


def least_sums(edges, start):
    """The pair of the least sums from `start` on and None, or of None and a ring below 0.

    Edges are triples (one, other, most). The ring is a list of indices of edges, none twice.
    """
    exits = exits_of(edges)
    sums = {start: 0}
    entries = {}
    fresh = [start]
    while fresh:
        fresh = _relaxed(edges, exits, sums, entries, fresh)
        ring = _ring_of(edges, entries)
        if ring is not None:
            return None, ring
    return sums, None


def exits_of(edges):
    """The dict from each event to the indices of the edges that leave it."""
    exits = {}
    for index, (one, other, _) in enumerate(edges):
        exits.setdefault(one, []).append(index)
        exits.setdefault(other, [])
    return exits


def _relaxed(edges, exits, sums, entries, fresh):
    """The events whose sums become less by an edge from one of the fresh events."""
    changed = {}
    for event in fresh:
        for index in exits[event]:
            _, other, most = edges[index]
            found = sums[event] + most
            if other not in sums or found < sums[other]:
                sums[other] = found
                entries[other] = index
                changed[other] = True
    return list(changed)


def _ring_of(edges, entries):
    """The ring that the last edges to the events make, or None.

    While no sum comes round below 0, these edges make a tree; so a ring among them has a sum below 0.
    """
    passed = {}
    for event in entries:
        at = event
        while at in entries and at not in passed:
            passed[at] = event
            at = edges[entries[at]][0]
        if at in entries and passed[at] == event:
            return _turned(edges, entries, at)
    return None


def _turned(edges, entries, event):
    """The edges of the ring through an event, in the order in which they follow one another."""
    ring = [entries[event]]
    while edges[ring[-1]][0] != event:
        ring.append(entries[edges[ring[-1]][0]])
    return ring[::-1]


def is_ring(edges):
    """Whether the edges follow one another, the first one the last one, and add up to less than 0."""
    follow = all([edges[at - 1][1] == edges[at][0] for at in range(len(edges))])
    return follow and sum([most for _, _, most in edges]) < 0


def sums_beside(edges, exits, ticks, start):
    """The least sums from `start` on, with ticks of all events that keep all edges.

    By such ticks no step costs less than nothing, so each event is done when it is reached first.
    """
    costs = {}
    queue = [(0, start)]
    while queue:
        cost, event = heappop(queue)
        if event not in costs:
            costs[event] = cost
            for index in exits[event]:
                _, other, most = edges[index]
                if other not in costs:
                    heappush(queue, (cost + most + ticks[event] - ticks[other], other))
    return {event: costs[event] + ticks[event] - ticks[start] for event in costs}
