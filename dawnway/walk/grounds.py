"""The ticks at which the rows of a closed table let deeds come."""

from dawnway.base.names import DAWN, is_seen
from dawnway.play.runs import MAX_AGAIN, looks_of

# No tick that a row tells is so great: it stands for none.
_NEVER = 10 ** 42


class Ground:
    """The rows of a closed table on which a deed can wait, for each deed.

    Bounds of 0 are not among them: by `first`, `joined` and `late`, a closed table that has one has
    waits and lesser bounds of the same deed that together ask no less.
    """

    def __init__(self, net, bounds, waits):
        works = net.works
        self._net = net
        self._looks = looks_of(net)
        self._works = works
        self._spans = {works[name][1]: (works[name][0], works[name][3]) for name in works}
        self._bounds = {deed: [] for deed in net.deeds}
        self._waits = {deed: [] for deed in net.deeds}
        for first, second in bounds:
            if first in self._bounds and bounds[(first, second)] < 0:
                self._bounds[first].append((second, bounds[(first, second)]))
        for event, work in waits:
            if event in self._waits:
                self._waits[event].append((work, waits[(event, work)]))

    def is_seen_by(self, tick, value):
        """Whether the value is an ascending tuple of pairs of ticks up to this one and events, each once."""
        return is_seen(value) and all([at <= tick and event in self._net for at, event in value])

    def known(self, seen):
        """The dict from dawn and all events that are seen to the ticks at which they came."""
        return {DAWN: 0, **{event: tick - self._looks.get(event, 0) for tick, event in seen}}

    def free(self, tick, seen):
        """The deeds that are free at the tick, ascending."""
        ticks = self._free_ticks(self.known(seen))
        return tuple([deed for deed in ticks if ticks[deed] <= tick])

    def following(self, seen):
        """The next tick at which a deed becomes free if nothing more is seen, or None.

        What is free already has to be seen: then whatever is left becomes free at a greater tick.
        """
        ticks = self._free_ticks(self.known(seen))
        tick = min([ticks[deed] for deed in ticks], default=_NEVER)
        return None if tick > MAX_AGAIN else tick

    def open_works(self, seen):
        """The works whose begin is known to have come, and whose end is not seen, ascending."""
        known = self.known(seen)
        works = self._works
        return tuple([name for name in works if works[name][0] in known and works[name][1] not in known])

    def can_end(self, tick, seen, ends):
        """Whether just these ends can be seen at the tick behind what is seen, by lengths and looks."""
        known = self.known(seen)
        ended = 0
        for name in self.open_works(seen):
            begin, end, least, most, look = self._works[name]
            length = tick - look - known[begin]
            if end in ends:
                ended += 1
                if not least <= length <= most:
                    return False
            elif length >= most:
                return False
        # What is no end of an open work, or is told twice, was not counted.
        return ended == len(ends)

    def _free_ticks(self, known):
        """The dict from the deeds that have not come to the ticks from which on they are free."""
        return {deed: self._free_tick(known, deed) for deed in self._bounds if deed not in known}

    def _free_tick(self, known, deed):
        """The tick from which on the rows of a deed let it come."""
        ticks = [self._bound_tick(known, event, most) for event, most in self._bounds[deed]]
        ticks.extend([self._wait_tick(known, work, wait) for work, wait in self._waits[deed]])
        return max([0, *ticks])

    def _bound_tick(self, known, event, most):
        """The tick from which on the event is known to have come early enough for the bound."""
        ticks = [_NEVER]
        if event in known:
            ticks.append(known[event] - most)
        if event in self._spans and self._spans[event][0] in known:
            begin, longest = self._spans[event]
            ticks.append(known[begin] + longest - most)
        return min(ticks)

    def _wait_tick(self, known, work, wait):
        """The tick from which on the wait for the work is over."""
        begin, end, _, _, _ = self._works[work]
        if end in known:
            return 0
        if begin in known:
            return known[begin] + wait
        return 0 if wait <= 0 else _NEVER
