"""Nets: events with last ticks, works between them, and bounds."""

from dawnway.base.names import DAWN, is_name, is_pair
from dawnway.errors import InvalidNet, InvalidOperation, UnknownName
from dawnway.net.faults import are_lasts, bounds_fault, works_fault

MAX_EVENTS = 200
MAX_WORKS = 60
MAX_BOUNDS = 400


class Net:
    """A net of events, works and bounds, which never changes."""

    def __init__(self, lasts, works=(), bounds=()):
        fault = net_fault(lasts, works, bounds)
        if fault is not None:
            raise InvalidNet(f"no net: {fault}")
        self._lasts = {name: lasts[name] for name in sorted(lasts)}
        self._works = {name: works[name] for name in sorted(works)}
        self._bounds = {name: bounds[name] for name in sorted(bounds)}
        self._ended = {self._works[name][1]: name for name in self._works}
        self._rows = _told_rows(self._lasts, self._works, self._bounds)

    @property
    def lasts(self):
        """The last ticks of the events."""
        return dict(self._lasts)

    @property
    def works(self):
        """The works by their names."""
        return dict(self._works)

    @property
    def bounds(self):
        """The bounds by their names."""
        return dict(self._bounds)

    @property
    def events(self):
        """The events, ascending, without dawn."""
        return tuple(self._lasts)

    @property
    def deeds(self):
        """The events that the house does, ascending."""
        return tuple([event for event in self._lasts if event not in self._ended])

    @property
    def ends(self):
        """The events that end works, ascending."""
        return tuple([event for event in self._lasts if event in self._ended])

    @property
    def horizon(self):
        """The greatest last tick."""
        return max([self._lasts[event] for event in self._lasts])

    @property
    def told(self):
        """The words of all told rows."""
        return tuple(self._rows)

    def row(self, word):
        """The row of a told word."""
        if not is_pair(word) or not all([isinstance(part, str) for part in word]) or word not in self._rows:
            raise InvalidOperation("no told word of the net")
        return self._rows[word]

    def work_of(self, event):
        """The work whose end the event is, or None."""
        self._need_event(event)
        return self._ended.get(event)

    def road(self, event):
        """The deed or dawn from which one comes to the event, and the works on the way."""
        self._need_event(event)
        root = event
        chain = []
        while root in self._ended:
            chain.append(self._ended[root])
            root = self._works[self._ended[root]][0]
        return root, tuple(chain[::-1])

    def with_bounds(self, bounds):
        """The net with more bounds, or with others in the place of those of the same names."""
        if not isinstance(bounds, dict):
            raise InvalidOperation("no dict of bounds")
        return Net(self._lasts, self._works, {**self._bounds, **bounds})

    def without(self, *names):
        """The net without these bounds."""
        for name in names:
            if not isinstance(name, str) or name not in self._bounds:
                raise UnknownName(name)
        return Net(self._lasts, self._works, {name: self._bounds[name] for name in self._bounds if name not in names})

    def with_lengths(self, lengths):
        """The net with other least and greatest lengths of some works."""
        if not _is_about(self._works, lengths) or not all([is_pair(lengths[name]) for name in lengths]):
            raise InvalidOperation("no dict from works to pairs of lengths")
        works = dict(self._works)
        for name in lengths:
            begin, end, _, _, look = works[name]
            works[name] = (begin, end, *lengths[name], look)
        return Net(self._lasts, works, self._bounds)

    def with_looks(self, looks):
        """The net with other looks of some works."""
        if not _is_about(self._works, looks):
            raise InvalidOperation("no dict from works to looks")
        works = dict(self._works)
        for name in looks:
            works[name] = (*works[name][:4], looks[name])
        return Net(self._lasts, works, self._bounds)

    def with_lasts(self, lasts):
        """The net with other last ticks of some events."""
        if not _is_about(self._lasts, lasts):
            raise InvalidOperation("no dict from events to last ticks")
        return Net({**self._lasts, **lasts}, self._works, self._bounds)

    def renamed(self, names):
        """The net with other names of all events, works and bounds that are keys of the dict."""
        if not _is_about({**self._lasts, **self._works, **self._bounds}, names):
            raise InvalidOperation("no dict from names of the net")
        if not all([is_name(names[name]) for name in names]):
            raise InvalidOperation("no dict to names")
        for lot in (self._lasts, self._works, self._bounds):
            if len(set([names.get(name, name) for name in lot])) < len(lot):
                raise InvalidOperation("two would have one name")
        lasts = {names.get(name, name): self._lasts[name] for name in self._lasts}
        return Net(lasts, _renamed_lot(self._works, names), _renamed_lot(self._bounds, names))

    def __len__(self):
        return len(self._lasts)

    def __contains__(self, value):
        return isinstance(value, str) and value in self._lasts

    def __eq__(self, other):
        if not isinstance(other, Net):
            return False
        return self._lasts == other._lasts and self._works == other._works and self._bounds == other._bounds

    def __str__(self):
        return f"net of {len(self._lasts)} events, {len(self._works)} works, {len(self._bounds)} bounds"

    def _need_event(self, event):
        if not isinstance(event, str) or event != DAWN and event not in self._lasts:
            raise UnknownName(event)


def net_fault(lasts, works, bounds):
    """What bars a net first, or None."""
    if not are_lasts(lasts, MAX_EVENTS):
        return ("lasts",)
    fault = works_fault(lasts, works, MAX_WORKS)
    if fault is None:
        fault = bounds_fault(lasts, bounds, MAX_BOUNDS)
    return fault


def _told_rows(lasts, works, bounds):
    """The dict from told words to their rows, in the told order."""
    rows = {("bound", name): ("bound", *bounds[name]) for name in bounds}
    for event in lasts:
        rows[("last", event)] = ("bound", DAWN, event, lasts[event])
    for event in lasts:
        rows[("begin", event)] = ("bound", event, DAWN, 0)
    for name in works:
        begin, end, _, most, _ = works[name]
        rows[("most", name)] = ("bound", begin, end, most)
    for name in works:
        begin, end, least, _, _ = works[name]
        rows[("least", name)] = ("bound", end, begin, -least)
    return rows


def _is_about(lot, value):
    """Whether the value is a dict whose keys are names of the lot."""
    return isinstance(value, dict) and all([name in lot for name in value])


def _renamed_lot(lot, names):
    """Works or bounds with other names, their own and those of their two events."""
    renamed = {}
    for name in lot:
        first, second, *numbers = lot[name]
        renamed[names.get(name, name)] = (names.get(first, first), names.get(second, second), *numbers)
    return renamed
