"""The live day: what is left behind a beginning, and what is sure or lost then."""

from dawnway.base.names import DAWN, is_name, is_pair, is_seen, is_tick
from dawnway.errors import InvalidNumber, InvalidOperation, TooMany, UnknownName
from dawnway.net.needs import need_net
from dawnway.net.nets import Net
from dawnway.net.times import are_times, has_times, is_times_paper, times_paper
from dawnway.play.runs import looks_of
from dawnway.rule.closing import closing_of
from dawnway.rule.rows import bounds_used, is_list, list_fault
from dawnway.rule.tables import answer, is_closed

MAX_LIVE = 200
VERDICTS = ("sure", "holdable", "luck", "lost")

_OWN_NAMES = "deed."


class Live:
    """A net with a beginning up to a tick. It never changes."""

    def __init__(self, net, *, tick=None, seen=()):
        self._rest = rest(net, tick, seen)
        self._net = net
        self._tick = tick
        self._seen = seen
        known = _known_ticks(net, seen)
        self._broken = tuple(sorted([word for word in net.told if _is_broken(known, net.row(word))]))
        works = net.works
        self._under_way = tuple([name for name in works if works[name][0] in known and works[name][1] not in known])

    @property
    def net(self):
        """The net."""
        return self._net

    @property
    def tick(self):
        """The tick up to which the beginning goes, or None."""
        return self._tick

    @property
    def seen(self):
        """What is seen."""
        return self._seen

    @property
    def rest(self):
        """The rest of the net."""
        return self._rest

    @property
    def broken(self):
        """The told words of the rows of seen events that do not hold, ascending."""
        return self._broken

    @property
    def under_way(self):
        """The works that have begun and were not seen to end, ascending."""
        return self._under_way

    def later(self, tick, *events):
        """The day up to a later tick, at which just these events more are seen."""
        if not is_tick(tick) or self._tick is not None and tick <= self._tick:
            raise InvalidNumber(tick)
        if not all([is_name(event) for event in events]):
            raise InvalidOperation("no events")
        seen = (*self._seen, *[(tick, event) for event in sorted(events)])
        if not is_beginning(self._net, tick, seen):
            raise InvalidOperation("no beginning of the net")
        return Live(self._net, tick=tick, seen=seen)

    def on(self, net):
        """The same beginning of another net."""
        return Live(net, tick=self._tick, seen=self._seen)

    def verdict(self, name):
        """The verdict of a bound."""
        return verdict(self._net, self._tick, self._seen, name)

    def verdicts(self):
        """The verdicts of all bounds."""
        return verdicts(self._net, self._tick, self._seen)

    def answer(self):
        """Any answer of the rest."""
        return answer(self._rest)

    def __eq__(self, other):
        if not isinstance(other, Live):
            return False
        return self._net == other._net and self._tick == other._tick and self._seen == other._seen

    def __str__(self):
        upto = "ahead" if self._tick is None else f"at {self._tick}"
        return f"day {upto}: {len(self._seen)} of {len(self._net)} seen"


def is_beginning(net, tick, value):
    """Whether the value is a beginning of the net up to the tick."""
    need_net(net)
    if tick is not None and not is_tick(tick):
        raise InvalidNumber(tick)
    if tick is None:
        return isinstance(value, tuple) and len(value) == 0
    if not is_seen(value) or not all([at <= tick and event in net for at, event in value]):
        return False
    known = _known_ticks(net, value)
    works = net.works
    return all([_can_be(known, tick, works[name]) for name in works])


def rest(net, tick, seen):
    """What is left of the net behind a beginning up to the tick, as a net."""
    _need_beginning(net, tick, seen)
    _need_few_bounds(net)
    return _rest_of(net, tick, seen)


def verdict(net, tick, seen, name):
    """The verdict of a bound behind a beginning."""
    left = _rest_beside(net, tick, seen, name)
    return _verdicts_of(left, (name,))[name]


def verdicts(net, tick, seen):
    """The verdicts of all bounds behind a beginning."""
    left = rest(net, tick, seen)
    return _verdicts_of(left, tuple(net.bounds))


def verdict_paper(net, tick, seen, name):
    """Any paper that shows the verdict of a bound."""
    left = _rest_beside(net, tick, seen, name)
    closing = closing_of(left)
    if closing.is_barred():
        kind, found = times_paper(left)
        return ("lost", found) if kind == "ring" else ("luck", closing.as_list(), found)
    first, second, most = left.bounds[name]
    free = closing_of(left.without(name))
    if free.keeps(first, second, most):
        return "sure", free.as_table(), free.lines_to(first, second)
    return "holdable", closing.as_table(), free.as_table()


def is_verdict_paper(net, tick, seen, name, value):
    """Whether the value is a paper that shows the verdict of the bound."""
    left = _rest_beside(net, tick, seen, name)
    if is_pair(value):
        return value[0] == "lost" and is_times_paper(left, ("ring", value[1]))
    if not isinstance(value, tuple) or len(value) != 3:
        return False
    word, one, other = value
    if word == "luck":
        return is_list(left, one) and are_times(left, other)
    free = left.without(name)
    if word == "sure":
        return is_closed(free, one) and _are_lines_to(free, other, left.bounds[name])
    if word != "holdable" or not is_closed(left, one) or not is_closed(free, other):
        return False
    first, second, most = left.bounds[name]
    # A closed table has a bound for each two events, over dawn.
    return other[0][(first, second)] > most


def _known_ticks(net, seen):
    """The dict from dawn and all events that are seen to the ticks at which they came."""
    looks = looks_of(net)
    return {DAWN: 0, **{event: at - looks.get(event, 0) for at, event in seen}}


def _can_be(known, tick, work):
    """Whether a work can have come to what is known up to a tick."""
    begin, end, least, most, look = work
    if end in known:
        return begin in known and least <= known[end] - known[begin] <= most
    return begin not in known or known[begin] + most + look > tick


def _is_broken(known, row):
    """Whether both events of a bound are known, and it does not hold."""
    _, first, second, most = row
    return first in known and second in known and known[second] > known[first] + most


def _need_beginning(net, tick, seen):
    """Raises the errors of a rest but for those of too many bounds."""
    if not is_beginning(net, tick, seen):
        raise InvalidOperation("no beginning of the net")
    if any([name.startswith(_OWN_NAMES) for name in net.bounds]):
        raise InvalidOperation("a bound of the net has a name of bounds of rests")


def _need_few_bounds(net):
    if len(net.bounds) > MAX_LIVE:
        raise TooMany(MAX_LIVE)


def _rest_beside(net, tick, seen, name):
    """The rest of a net that has a bound with this name."""
    _need_beginning(net, tick, seen)
    if not isinstance(name, str) or name not in net.bounds:
        raise UnknownName(name)
    _need_few_bounds(net)
    return _rest_of(net, tick, seen)


def _rest_of(net, tick, seen):
    if tick is None:
        return net
    known = _known_ticks(net, seen)
    told = net.lasts
    works = net.works
    bounds = net.bounds
    for index, deed in enumerate(net.deeds):
        bounds[f"deed.{index}"] = (deed, DAWN, -known.get(deed, tick + 1))
    lasts = {event: min(told[event], known.get(event, told[event])) for event in told}
    return Net(lasts, {name: _rest_of_work(known, tick, works[name]) for name in works}, bounds)


def _rest_of_work(known, tick, work):
    """The work with the lengths that it can still have."""
    begin, end, least, most, look = work
    if end in known:
        length = known[end] - known[begin]
        return begin, end, length, length, look
    if begin in known:
        least = max(least, tick + 1 - look - known[begin])
    return begin, end, least, most, look


def _verdicts_of(left, names):
    """The verdicts of bounds in a rest."""
    closing = closing_of(left)
    if closing.is_barred():
        word = "luck" if has_times(left) else "lost"
        return {name: word for name in names}
    bounds = left.bounds
    asked = []
    for name in names:
        first, second, _ = bounds[name]
        # What hangs on other rows alone is made of them without the bound, too.
        if name in bounds_used(closing.lines_to(first, second)):
            asked.append(name)
    lasting = _holdable_among(closing_of(left.without(*asked)), bounds, asked)
    return {name: "holdable" if name in lasting else "sure" for name in names}


def _holdable_among(closing, bounds, asked):
    """Those of the bounds that are not made of all others; the closing has all rows but these."""
    if len(asked) <= 1:
        return [name for name in asked if not _is_kept(closing, bounds[name])]
    half = len(asked) // 2
    found = []
    for here, others in ((asked[:half], asked[half:]), (asked[half:], asked[:half])):
        rows = [(*bounds[name], ("bound", name)) for name in others]
        found.extend(_holdable_among(closing.beside_all(rows), bounds, here))
    return found


def _is_kept(closing, bound):
    first, second, most = bound
    return closing.keeps(first, second, most)


def _are_lines_to(net, value, bound):
    """Whether the value is lines that lead to a row that covers the bound."""
    # Lines that lead to a bound for two different events lack nothing of a list but its end.
    if list_fault(net, value) != ("end", None) or value == ():
        return False
    kind, one, other, number = value[-1][0]
    first, second, most = bound
    return kind == "bound" and (one, other) == (first, second) and number <= most
