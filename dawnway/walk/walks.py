"""Walks: ways that do each deed as soon as a closed table lets it come."""

from dawnway.base.names import DAWN, is_tick
from dawnway.errors import InvalidNumber, InvalidOperation, InvalidTable
from dawnway.net.needs import need_net
from dawnway.net.nets import Net
from dawnway.play.plays import need_course, played
from dawnway.rule.tables import is_closed
from dawnway.walk.grounds import Ground


class Walk:
    """A walk that goes on by what is seen. It never changes."""

    def __init__(self, net, bounds, waits):
        self._ground = _ground_of(net, bounds, waits)
        self._net = net
        self._bounds = {pair: bounds[pair] for pair in bounds}
        self._waits = {pair: waits[pair] for pair in waits}
        self._tick = None
        self._seen = ()
        self._under_way = self._ground.open_works(())

    @property
    def net(self):
        """The net."""
        return self._net

    @property
    def tick(self):
        """The last tick that was told, or None."""
        return self._tick

    @property
    def seen(self):
        """What is seen."""
        return self._seen

    @property
    def under_way(self):
        """The works whose begin is known to have come, and whose end is not seen."""
        return self._under_way

    def next(self):
        """The next tick at which deeds come if nothing is seen ahead of it, and these deeds, or None."""
        tick = self._ground.following(self._seen)
        return None if tick is None else (tick, self._ground.free(tick, self._seen))

    def at(self, tick, *ends):
        """The walk behind the tick, at which just these ends are seen."""
        if not is_tick(tick) or self._tick is not None and tick <= self._tick:
            raise InvalidNumber(tick)
        seen = self._seen
        coming = self._ground.following(seen)
        while coming is not None and coming < tick:
            seen = _seen_on(seen, coming, self._ground.free(coming, seen))
            coming = self._ground.following(seen)
        if not self._ground.can_end(tick, seen, ends):
            raise InvalidOperation("at this tick not just these ends can be seen")
        seen = _seen_on(seen, tick, ends)
        return self._later(tick, _seen_on(seen, tick, self._ground.free(tick, seen)))

    def __len__(self):
        return len(self._seen)

    def __eq__(self, other):
        if not isinstance(other, Walk):
            return False
        if self._net != other._net or self._tick != other._tick or self._seen != other._seen:
            return False
        return self._bounds == other._bounds and self._waits == other._waits

    def __str__(self):
        if self._tick is None:
            return "walk at dawn"
        return f"walk behind tick {self._tick}, {len(self._seen)} seen"

    def _later(self, tick, seen):
        """This walk behind a later tick."""
        # Its table is known to be closed. That of one deed is looked at in its place, which takes no time.
        walk = Walk(Net({"a": 0}), {("a", DAWN): 0, (DAWN, "a"): 0}, {})
        walk._ground = self._ground
        walk._net = self._net
        walk._bounds = self._bounds
        walk._waits = self._waits
        walk._tick = tick
        walk._seen = seen
        walk._under_way = self._ground.open_works(seen)
        return walk


def walk_way(net, bounds, waits):
    """The walk of a closed table as a way."""
    ground = _ground_of(net, bounds, waits)

    def way(tick, seen):
        """The free deeds, and the tick at which the next one becomes free if nothing more is seen."""
        if not is_tick(tick) or not ground.is_seen_by(tick, seen):
            raise InvalidOperation("no tick, or nothing that is seen up to it")
        deeds = ground.free(tick, seen)
        return deeds, ground.following(_seen_on(seen, tick, deeds))

    return way


def free_deeds(net, bounds, waits, tick, seen):
    """The deeds that are free at the tick behind what is seen."""
    ground = _ground_of(net, bounds, waits)
    if not is_tick(tick):
        raise InvalidNumber(tick)
    if not ground.is_seen_by(tick, seen):
        raise InvalidOperation("nothing that is seen up to the tick")
    return ground.free(tick, seen)


def walked(net, bounds, waits, course):
    """The play of the walk in the course."""
    way = walk_way(net, bounds, waits)
    need_course(net, course)
    return played(net, way, course)


def _ground_of(net, bounds, waits):
    """The ground of a closed table: raises InvalidNet or InvalidTable if there is none."""
    need_net(net)
    if not is_closed(net, (bounds, waits)):
        raise InvalidTable("no closed table of the net")
    return Ground(net, bounds, waits)


def _seen_on(seen, tick, events):
    """What is seen behind the tick, at which these events are seen."""
    return tuple(sorted([*seen, *[(tick, event) for event in events]]))
