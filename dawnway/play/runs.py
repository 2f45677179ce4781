"""What comes and what is seen, as deeds are done in one course."""

from dawnway.base.names import DAWN

# No way is asked behind this tick.
MAX_AGAIN = 10 ** 32


class Run:
    """The ticks of all that comes by the deeds that are done so far, also of ends to come."""

    def __init__(self, net, course):
        self._many = len(net)
        self._ends = {event: True for event in net.ends}
        self._spans = {}
        for event in net.events:
            root, chain = net.road(event)
            self._spans[event] = (root, sum([course[work] for work in chain]))
        self._ticks = {}
        self.begin(DAWN, 0)

    def begin(self, root, tick):
        """Has a deed, or dawn, come at a tick, and all ends that hang on it behind it."""
        for event in self._spans:
            if self._spans[event][0] == root:
                self._ticks[event] = tick + self._spans[event][1]

    def as_times(self):
        """The ticks of all events that come, ascending by the events."""
        return {event: self._ticks[event] for event in sorted(self._ticks)}

    def is_over(self, tick):
        """Whether all events have come by the tick."""
        return len(self._ticks) == self._many and max([self._ticks[event] for event in self._ticks]) <= tick

    def as_rounds(self):
        """The triples (tick, ends, deeds) of the ticks at which something comes."""
        coming = {}
        for event in sorted(self._ticks):
            ends, deeds = coming.setdefault(self._ticks[event], ([], []))
            if event in self._ends:
                ends.append(event)
            else:
                deeds.append(event)
        return tuple([(tick, tuple(coming[tick][0]), tuple(coming[tick][1])) for tick in sorted(coming)])


def looks_of(net):
    """The dict from the ends of the net to the looks of their works."""
    works = net.works
    return {works[name][1]: works[name][4] for name in works}


def seen_by(looks, ticks, tick):
    """What is seen up to and including the tick, if events come at these ticks."""
    pairs = sorted([(ticks[event] + looks.get(event, 0), event) for event in ticks])
    return tuple([pair for pair in pairs if pair[0] <= tick])


def is_kept(net, course, ticks, row):
    """Whether a row of the net holds, if just the events with ticks come."""
    ticks = {DAWN: 0, **ticks}
    kind, one, other, number = row
    if kind == "bound":
        return one in ticks and other in ticks and ticks[other] <= ticks[one] + number
    begin, end, _, most, look = net.works[other]
    if one not in ticks or begin not in ticks:
        return False
    if ticks[one] >= ticks[begin] + number:
        return True
    return ticks[end] + look <= ticks[one] and course[other] < most
