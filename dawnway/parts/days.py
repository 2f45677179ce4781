"""Days: places, uses that hold them one after another, and deals that tell in which sequence."""

from dawnway.base.names import DAWN, MAX_LENGTH, is_between, is_name, is_names
from dawnway.errors import InvalidDay, InvalidDeal, InvalidOperation, Refused, TooMany, UnknownName
from dawnway.net.needs import are_event_ticks, is_place, need_net
from dawnway.net.nets import MAX_BOUNDS

MAX_PLACES = 20
MAX_USES = 60

_OWN_NAMES = ("use.", "gap.", "case.")


class Day:
    """A net with places, uses of them, gaps between uses, and promises. It never changes."""

    def __init__(self, net, places, *, uses=(), gaps=(), promises=()):
        need_net(net)
        if not is_names(places) or len(places) > MAX_PLACES:
            raise InvalidDay("no ascending tuple of places")
        if not _are_uses(net, places, _dict_of(uses)):
            raise InvalidDay("no uses of these places")
        if not _are_gaps(_dict_of(uses), _dict_of(gaps)):
            raise InvalidDay("no gaps of kinds of uses")
        if not _are_promises(net, _dict_of(promises)):
            raise InvalidDay("no promises of the net")
        if any([name.startswith(part) for name in net.bounds for part in _OWN_NAMES]):
            raise InvalidDay("a bound of the net has a name of bounds that are made")
        self._net = net
        self._places = places
        self._uses = {name: uses[name] for name in sorted(uses)}
        self._gaps = {key: gaps[key] for key in sorted(gaps)}
        self._promises = {name: promises[name] for name in sorted(promises)}

    @property
    def net(self):
        """The net."""
        return self._net

    @property
    def places(self):
        """The places."""
        return self._places

    @property
    def uses(self):
        """The uses by their names."""
        return dict(self._uses)

    @property
    def gaps(self):
        """The told gaps by places and kinds."""
        return {key: self._gaps[key] for key in self._gaps}

    @property
    def promises(self):
        """What it costs to take bounds of the net back."""
        return dict(self._promises)

    def uses_of(self, place):
        """The uses of a place, ascending."""
        if place not in self._places:
            raise UnknownName(place)
        return tuple([name for name in self._uses if self._uses[name][0] == place])

    def gap(self, one, other):
        """The gap of the kinds of two uses of one place."""
        for name in (one, other):
            if not isinstance(name, str) or name not in self._uses:
                raise UnknownName(name)
        place, _, _, kind = self._uses[one]
        if self._uses[other][0] != place:
            raise InvalidOperation("uses of two places")
        return self._gaps.get((place, kind, self._uses[other][3]), 0)

    def with_net(self, net):
        """The day with another net."""
        return Day(net, self._places, uses=self._uses, gaps=self._gaps, promises=self._promises)

    def __len__(self):
        return len(self._uses)

    def __eq__(self, other):
        if not isinstance(other, Day):
            return False
        if self._net != other._net or self._places != other._places or self._uses != other._uses:
            return False
        return self._gaps == other._gaps and self._promises == other._promises

    def __str__(self):
        return f"day of {len(self._uses)} uses on {len(self._places)} places"


def is_deal(day, value):
    """Whether the value is a deal of the day."""
    need_day(day)
    if not isinstance(value, dict) or len(value) != len(day.places):
        return False
    return all([place in value and _is_sequence(day.uses_of(place), value[place]) for place in day.places])


def net_of(day, deal):
    """The net of a deal."""
    need_deal(day, deal)
    bounds = use_bounds(day)
    pairs = [pair for place in day.places for pair in _neighbours(deal[place])]
    for index, (one, other) in enumerate(pairs):
        bounds[f"gap.{index}"] = gap_bound(day, one, other)
    if len(day.net.bounds) + len(bounds) > MAX_BOUNDS:
        raise TooMany(MAX_BOUNDS)
    return day.net.with_bounds(bounds)


def torn_uses(day, ticks):
    """The uses that end ahead of their begin, or end and do not begin."""
    _need_ticks(day, ticks)
    return _torn(day, {DAWN: 0, **ticks})


def clashes(day, ticks):
    """The pairs of uses of one place that are not torn, and neither of which comes behind the other."""
    _need_ticks(day, ticks)
    return _clashing(day, {DAWN: 0, **ticks})


def deal_by(day, ticks):
    """Any deal whose own bounds the ticks of all events keep."""
    _need_ticks(day, ticks)
    if len(ticks) != len(day.net):
        raise InvalidOperation("not all events have ticks")
    at = {DAWN: 0, **ticks}
    torn = _torn(day, at)
    if torn != ():
        raise Refused(("torn", torn[0]))
    clashing = _clashing(day, at)
    if clashing != ():
        raise Refused(("clash", *clashing[0]))
    return deal_with(day, lambda one, other: _is_behind(day, at, one, other))


def need_day(value):
    """Raises InvalidDay unless the value is a day."""
    if not isinstance(value, Day):
        raise InvalidDay("no Day")


def need_deal(day, deal):
    """Raises InvalidDay or InvalidDeal unless both are a day and a deal of it."""
    if not is_deal(day, deal):
        raise InvalidDeal("no deal of the day")


def use_bounds(day):
    """The bounds that have each use end no earlier than it begins."""
    uses = day.uses
    return {f"use.{index}": (uses[name][2], uses[name][1], 0) for index, name in enumerate(uses)}


def gap_bound(day, one, other):
    """The bound that has a use come ahead of another one of its place."""
    uses = day.uses
    return uses[other][1], uses[one][2], -day.gap(one, other)


def deal_with(day, is_ahead):
    """The deal in which each use has all those ahead of it that can be ahead of it.

    Of each two uses of a place one can be ahead of the other one; and what can be ahead of a use can be
    ahead of all that this one can be ahead of. So it is enough to count.
    """
    deal = {}
    for place in day.places:
        uses = day.uses_of(place)
        counted = [(len([one for one in uses if one != other and is_ahead(one, other)]), other) for other in uses]
        deal[place] = tuple([name for _, name in sorted(counted)])
    return deal


def _dict_of(value):
    """The value, or an empty dict for `()`."""
    return {} if isinstance(value, tuple) and len(value) == 0 else value


def _are_uses(net, places, uses):
    if not isinstance(uses, dict) or len(uses) > MAX_USES or not all([is_name(name) for name in uses]):
        return False
    if not all([_is_use(net, places, uses[name]) for name in uses]):
        return False
    begins = {(uses[name][0], uses[name][1]): True for name in uses}
    return not any([(uses[name][0], uses[name][2]) in begins for name in uses])


def _is_use(net, places, value):
    if not isinstance(value, tuple) or len(value) != 4:
        return False
    place, first, last, kind = value
    return place in places and is_place(net, first) and last in net and first != last and is_name(kind)


def _are_gaps(uses, gaps):
    if not isinstance(gaps, dict):
        return False
    kinds = {}
    for name in uses:
        place, _, _, kind = uses[name]
        kinds.setdefault(place, {})[kind] = True
    for key in gaps:
        if not isinstance(key, tuple) or len(key) != 3:
            return False
        if key[0] not in kinds or key[1] not in kinds[key[0]] or key[2] not in kinds[key[0]]:
            return False
        if not is_between(gaps[key], 0, MAX_LENGTH):
            return False
    return all([_is_least(gaps, key, mid) for key in gaps for mid in kinds[key[0]]])


def _is_least(gaps, key, mid):
    """Whether the gap is at most that of both gaps over a third kind."""
    place, one, other = key
    return gaps[key] <= gaps.get((place, one, mid), 0) + gaps.get((place, mid, other), 0)


def _are_promises(net, promises):
    if not isinstance(promises, dict):
        return False
    bounds = net.bounds
    return all([name in bounds and is_between(promises[name], 0, MAX_LENGTH) for name in promises])


def _is_sequence(uses, value):
    """Whether the value is a tuple of these uses, each once."""
    if not isinstance(value, tuple) or not all([isinstance(name, str) for name in value]):
        return False
    return tuple(sorted(value)) == uses


def _neighbours(sequence):
    return [(sequence[at], sequence[at + 1]) for at in range(len(sequence) - 1)]


def _need_ticks(day, ticks):
    need_day(day)
    if not are_event_ticks(day.net, ticks):
        raise InvalidOperation("no dict from events of the net to ticks")


def _torn(day, ticks):
    uses = day.uses
    return tuple([name for name in uses if _is_torn(ticks, uses[name])])


def _is_torn(ticks, use):
    _, first, last, _ = use
    return last in ticks and (first not in ticks or ticks[last] < ticks[first])


def _clashing(day, ticks):
    uses = day.uses
    whole = [name for name in uses if uses[name][1] in ticks and not _is_torn(ticks, uses[name])]
    return tuple([(one, other) for one in whole for other in whole if one < other and _clash(day, ticks, one, other)])


def _clash(day, ticks, one, other):
    if day.uses[one][0] != day.uses[other][0]:
        return False
    return not _is_behind(day, ticks, one, other) and not _is_behind(day, ticks, other, one)


def _is_behind(day, ticks, one, other):
    """Whether the other one of two standing uses of a place comes at least their gap behind the one."""
    second, first, most = gap_bound(day, one, other)
    return first in ticks and ticks[first] <= ticks[second] + most
