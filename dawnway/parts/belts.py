"""Bags: plans that put them on a belt in time, and stretches to which too many are bound."""

from dawnway.base.names import MAX_LENGTH, is_ascending, is_between, is_integer, is_name, is_pair, is_tick
from dawnway.errors import InvalidDay, InvalidNumber, InvalidOperation
from dawnway.parts.bags import (
    bound_bags, chosen_bags, crowded, is_within, merged, planned, spreads_of, stretches_of, ticks_of, worst_ready,
)

MAX_LOTS = 40
MAX_BAGS = 400

_MAX_FLIGHTS = 20
_MAX_WORTH = 10 ** 9


class Belt:
    """Flights, lots of their bags, and the room of a belt. It never changes."""

    def __init__(self, flights, lots, *, room):
        if not _are_flights(flights):
            raise InvalidDay("no dict from at most twenty flights to pairs of ticks")
        if not isinstance(lots, tuple) or len(lots) > MAX_LOTS or not all([_is_lot(flights, lot) for lot in lots]):
            raise InvalidDay("no tuple of at most forty lots")
        if sum([lot[3] for lot in lots]) > MAX_BAGS:
            raise InvalidDay("more than 400 bags")
        if not is_between(room, 1, MAX_BAGS):
            raise InvalidNumber(room)
        self._flights = {flight: flights[flight] for flight in sorted(flights)}
        self._lots = lots
        self._room = room
        self._counts = [lot[3] for lot in lots]

    @property
    def flights(self):
        """The pairs of the least and the greatest tick at which the flights are ready."""
        return dict(self._flights)

    @property
    def lots(self):
        """The lots."""
        return self._lots

    @property
    def room(self):
        """The number of the bags that the belt takes in a tick."""
        return self._room

    @property
    def total(self):
        """The number of the bags."""
        return sum(self._counts)

    def are_ready(self, value):
        """Whether the value is ready ticks."""
        if not isinstance(value, dict) or len(value) != len(self._flights):
            return False
        return all([flight in value and _is_in(value[flight], self._flights[flight]) for flight in self._flights])

    def window(self, ready, lot):
        """The first and the last tick at which bags of a lot can be put on."""
        self._need_ready(ready)
        if not is_between(lot, 0, len(self._lots) - 1):
            raise InvalidNumber(lot)
        return self._windows(ready)[lot]

    def excess(self, ready, stretch):
        """The number of the bags that are bound to the stretch, less what it carries."""
        self._need_ready(ready)
        if not _is_stretch(stretch):
            raise InvalidOperation("no stretch")
        return self._excess(self._windows(ready), stretch)

    def worst(self):
        """The greatest excess of all, with ready ticks and a stretch, or None without lots."""
        if self._lots == ():
            return None
        spreads = spreads_of(self._lots)
        told = crowded(self._flights, spreads)
        _, first, last = max([(many - self._carried((first, last)), first, last) for first, last, many in told])
        ready = worst_ready(self._flights, spreads, (first, last))
        return self._excess(self._windows(ready), (first, last)), ready, (first, last)

    def is_worst(self, value):
        """Whether the value is the greatest excess with ready ticks and a stretch, or None without lots."""
        if self._lots == ():
            return value is None
        if not isinstance(value, tuple) or len(value) != 3 or not is_integer(value[0]):
            return False
        number, ready, stretch = value
        if not self.are_ready(ready) or not _is_stretch(stretch):
            return False
        return number == self._excess(self._windows(ready), stretch) and number == self.worst()[0]

    def paper(self, ready):
        """Any whole plan, or any stretch to which more bags are bound than it carries, with the word for it."""
        self._need_ready(ready)
        windows = self._windows(ready)
        for stretch in stretches_of(windows):
            if self._excess(windows, stretch) > 0:
                return "over", stretch
        return "plan", planned(windows, self._counts, self._room)

    def is_paper(self, ready, value):
        """Whether the value is a whole plan, or a stretch to which more bags are bound than it carries."""
        self._need_ready(ready)
        if not is_pair(value):
            return False
        if value[0] == "plan":
            return self.is_plan(ready, value[1]) and sum([many for _, _, many in value[1]]) == self.total
        return value[0] == "over" and _is_stretch(value[1]) and self._excess(self._windows(ready), value[1]) > 0

    def is_plan(self, ready, value):
        """Whether the value is a plan, whole or not."""
        self._need_ready(ready)
        if not isinstance(value, tuple) or not all([self._is_step(item) for item in value]):
            return False
        if not is_ascending([(tick, lot) for tick, lot, _ in value]):
            return False
        windows = self._windows(ready)
        used = {}
        for tick, lot, many in value:
            if not is_within((tick, tick), windows[lot]):
                return False
            used[tick] = used.get(tick, 0) + many
        if any([used[tick] > self._room for tick in used]):
            return False
        return all([put <= many for put, many in zip(self._put_on(value), self._counts)])

    def least_paper(self, ready):
        """A plan that leaves the least worth, and the proofs that no plan leaves less."""
        self._need_ready(ready)
        windows = self._windows(ready)
        counts, full = chosen_bags(windows, self._lots, self._room)
        proofs = []
        for worth in self._worths():
            proofs.append((worth, merged([full[lot] for lot in full if self._lots[lot][4] >= worth])))
        return planned(windows, counts, self._room), tuple(proofs)

    def is_least_paper(self, ready, value):
        """Whether the value is a plan with proofs that no plan leaves less worth."""
        self._need_ready(ready)
        if not is_pair(value) or not self.is_plan(ready, value[0]) or not isinstance(value[1], tuple):
            return False
        worths = self._worths()
        if len(value[1]) != len(worths) or not all([is_pair(proof) for proof in value[1]]):
            return False
        windows = self._windows(ready)
        put = self._put_on(value[0])
        for worth, (told, stretches) in zip(worths, value[1]):
            if not is_integer(told) or told != worth or not _are_apart(stretches):
                return False
            if not self._is_proof(windows, put, worth, stretches):
                return False
        return True

    def worth_left(self, ready):
        """The least worth that a plan leaves."""
        self._need_ready(ready)
        counts, _ = chosen_bags(self._windows(ready), self._lots, self._room)
        return sum([lot[4] * (lot[3] - many) for lot, many in zip(self._lots, counts)])

    def least_room(self):
        """The least room with which there are whole plans for all ready ticks."""
        told = crowded(self._flights, spreads_of(self._lots))
        return max([1, *[-(-many // ticks_of((first, last))) for first, last, many in told]])

    def __len__(self):
        return len(self._lots)

    def __eq__(self, other):
        if not isinstance(other, Belt):
            return False
        return self._flights == other._flights and self._lots == other._lots and self._room == other._room

    def __str__(self):
        return f"belt of {len(self._lots)} lots, {self.total} bags"

    def _need_ready(self, value):
        if not self.are_ready(value):
            raise InvalidOperation("no ready ticks of the flights")

    def _windows(self, ready):
        """The windows of all lots."""
        return [(ready[flight] + ahead, ready[flight] + behind) for flight, ahead, behind, _, _ in self._lots]

    def _carried(self, stretch):
        return self._room * ticks_of(stretch)

    def _excess(self, windows, stretch):
        return bound_bags(windows, self._counts, stretch) - self._carried(stretch)

    def _worths(self):
        """The worths of the lots, the greater ones first."""
        return sorted(set([lot[4] for lot in self._lots]))[::-1]

    def _is_step(self, value):
        if not isinstance(value, tuple) or len(value) != 3:
            return False
        tick, lot, many = value
        return is_tick(tick) and is_between(lot, 0, len(self._lots) - 1) and is_between(many, 1, MAX_BAGS)

    def _put_on(self, plan):
        """The number of the bags of each lot that the plan puts on."""
        put = [0] * len(self._lots)
        for _, lot, many in plan:
            put[lot] += many
        return put

    def _is_proof(self, windows, put, worth, stretches):
        """Whether the stretches show that no plan puts more bags of at least this worth on."""
        dear = [lot for lot in range(len(self._lots)) if self._lots[lot][4] >= worth]
        loose = [lot for lot in dear if not any([is_within(windows[lot], stretch) for stretch in stretches])]
        carried = sum([self._carried(stretch) for stretch in stretches])
        return sum([put[lot] for lot in dear]) == carried + sum([self._counts[lot] for lot in loose])


def _are_flights(value):
    if not isinstance(value, dict) or len(value) > _MAX_FLIGHTS:
        return False
    return all([is_name(flight) and _is_stretch(value[flight]) for flight in value])


def _is_lot(flights, value):
    if not isinstance(value, tuple) or len(value) != 5:
        return False
    flight, ahead, behind, many, worth = value
    if not is_name(flight) or flight not in flights or not is_integer(ahead) or not is_integer(behind):
        return False
    if ahead > behind or flights[flight][0] + ahead < 0 or flights[flight][1] + behind > MAX_LENGTH:
        return False
    return is_between(many, 1, MAX_BAGS) and is_between(worth, 0, _MAX_WORTH)


def _is_stretch(value):
    """Whether the value is a pair of ticks, the first one at most the second one."""
    return is_pair(value) and is_tick(value[0]) and is_tick(value[1]) and value[0] <= value[1]


def _is_in(value, stretch):
    first, last = stretch
    return is_between(value, first, last)


def _are_apart(value):
    """Whether the value is a tuple of stretches, each one behind the end of the one ahead."""
    if not isinstance(value, tuple) or not all([_is_stretch(stretch) for stretch in value]):
        return False
    return all([value[at][1] < value[at + 1][0] for at in range(len(value) - 1)])
