"""Lanes: travellers who come at ticks of their own, and the desks that serve them."""

from dawnway.base.names import is_ascending, is_between, is_integer, is_name, is_pair, is_tick
from dawnway.errors import InvalidDay, InvalidNumber, InvalidOperation, TooMany
from dawnway.parts.spans import need_table, span_of

_MAX_ROWS = 60
_MAX_MANY = 10 ** 9


class Lane:
    """Rows of travellers, and the tick and the pace at which desks serve them. It never changes."""

    def __init__(self, rows, *, opens=0, pace=1):
        if not isinstance(rows, tuple) or len(rows) > _MAX_ROWS or not all([_is_row(row) for row in rows]):
            raise InvalidDay("no tuple of at most sixty rows")
        if not is_tick(opens):
            raise InvalidNumber(opens)
        if not is_between(pace, 1, _MAX_MANY):
            raise InvalidNumber(pace)
        self._rows = tuple(sorted(rows))
        self._opens = opens
        self._pace = pace

    @property
    def rows(self):
        """The rows, ascending, equal ones each."""
        return self._rows

    @property
    def opens(self):
        """The tick from which on desks serve."""
        return self._opens

    @property
    def pace(self):
        """The number of the travellers whom a desk serves in a tick."""
        return self._pace

    @property
    def total(self):
        """The number of the travellers."""
        return sum([many for _, _, many in self._rows])

    def most_in(self, first, last):
        """The number of the travellers who can come in the stretch."""
        _need_stretch(first, last)
        return self._most_in(first, last)

    def is_coming(self, value):
        """Whether the value deals all travellers to ticks of their rows."""
        if not isinstance(value, tuple) or not all([_is_arrival(item) for item in value]):
            return False
        if not is_ascending([tick for tick, _ in value]) or sum([many for _, many in value]) != self.total:
            return False
        left = list(self._rows)
        for tick, many in value:
            left = _without(left, tick, many)
        return left == []

    def coming(self, first, last):
        """The coming in which all who can come late in the stretch do so, and all others early."""
        _need_stretch(first, last)
        return self._coming(first, last)

    def left_by(self, coming, desks):
        """For each tick of the coming, who is left behind it, and how long the last of those who came then waits."""
        if not self.is_coming(coming):
            raise InvalidOperation("no coming of the lane")
        _need_desks(desks)
        told = []
        left = 0
        ahead = 0
        for tick, many in coming:
            # From the tick behind the one ahead on, up to this one, those who are there are served.
            left = max(0, left - self._served(desks, ahead, tick - 1)) + many
            left = max(0, left - self._served(desks, tick, tick))
            told.append((tick, left, self._wait(desks, tick, left)))
            ahead = tick + 1
        return tuple(told)

    def longest_queue(self, desks):
        """The greatest number of travellers that are left behind a tick, with a stretch that shows it, or None."""
        _need_desks(desks)
        told = [(self._left(desks, first, last), first, last) for first, last in self._stretches()]
        number, first, last = max([(0, 0, 0), *told])
        return number, None if number == 0 else (first, last)

    def longest_wait(self, desks):
        """The longest wait, with a stretch whose coming has it, or None."""
        _need_desks(desks)
        if desks == 0 and self._rows != ():
            return None, None
        told = [(0, 0, 0)]
        for first, last in self._stretches():
            told.append((self._wait(desks, last, self._left(desks, first, last)), first, last))
        number, first, last = max(told)
        return number, None if number == 0 else (first, last)

    def fewest_desks(self, *, queue=None, wait=None):
        """The fewest desks that keep queues and waits short, with what is too long with one less, or None."""
        for number in (queue, wait):
            if number is not None and (not is_integer(number) or number < 0):
                raise InvalidNumber(number)
        needed = [0, *self._needed_by_queue(queue), *self._needed_by_wait(wait)]
        if None in needed:
            return None
        desks = max(needed)
        if desks > _MAX_MANY:
            raise TooMany(_MAX_MANY)
        return desks, None if desks == 0 else self._too_long(desks - 1, queue)

    def __len__(self):
        return len(self._rows)

    def __eq__(self, other):
        if not isinstance(other, Lane):
            return False
        return self._rows == other._rows and self._opens == other._opens and self._pace == other._pace

    def __str__(self):
        return f"lane of {len(self._rows)} rows"

    def _most_in(self, first, last):
        return sum([many for begin, end, many in self._rows if begin <= last and end >= first])

    def _coming(self, first, last):
        comers = {}
        for begin, end, many in self._rows:
            tick = min(end, last) if begin <= last and end >= first else begin
            comers[tick] = comers.get(tick, 0) + many
        return tuple([(tick, comers[tick]) for tick in sorted(comers)])

    def _serving(self, first, last):
        """The number of the ticks from one to another one at which desks serve."""
        return max(0, last - max(first, self._opens) + 1)

    def _served(self, desks, first, last):
        """The number of the travellers who can be served in the stretch."""
        return desks * self._pace * self._serving(first, last)

    def _left(self, desks, first, last):
        """The number of the travellers whom the stretch leaves at least, if as many as can be come in it."""
        return self._most_in(first, last) - self._served(desks, first, last)

    def _wait(self, desks, tick, left):
        """The wait of the last one of those who are left behind a tick, or None if they are never served."""
        if left <= 0:
            return 0
        if desks == 0:
            return None
        return max(tick, self._opens - 1) - tick - (-left // (desks * self._pace))

    def _stretches(self):
        """The stretches that are enough for longest queues and waits.

        They end as rows begin: behind that nobody more can come. And they begin as a row ends, or
        together with their end: ahead of that nobody more stays.
        """
        lasts = sorted(set([end for _, end, _ in self._rows]))
        firsts = sorted(set([begin for begin, _, _ in self._rows]))
        return [(begin, end) for end in firsts for begin in [*lasts, end] if begin <= end]

    def _needed_by_queue(self, queue):
        """The desks that stretches need for a queue that is short enough; None if no number of them is enough."""
        if queue is None:
            return []
        told = [(self._most_in(first, last) - queue, self._serving(first, last)) for first, last in self._stretches()]
        return [self._needed(many, ticks) for many, ticks in told if many > 0]

    def _needed_by_wait(self, wait):
        """The desks that stretches need for waits that are short enough; None if no number of them is enough.

        Who comes in a stretch is served `wait` ticks behind its end, together with all others.
        """
        if wait is None:
            return []
        told = [(self._most_in(first, last), self._serving(first, last + wait)) for first, last in self._stretches()]
        return [self._needed(many, ticks) for many, ticks in told]

    def _needed(self, many, ticks):
        """The desks that serve so many in so many ticks, or None."""
        return None if ticks == 0 else -(-many // (ticks * self._pace))

    def _too_long(self, desks, queue):
        """What is too long with so few desks, and a stretch that shows it."""
        number, stretch = self.longest_queue(desks)
        if queue is not None and number > queue:
            return "queue", stretch
        if desks == 0:
            return "wait", self._rows[0][:2]
        return "wait", self.longest_wait(desks)[1]


def lane_by(answer, rows, *, opens=0, pace=1):
    """The lane of travellers who come with events, by the earliest and the latest ticks of these."""
    need_table(answer)
    if not isinstance(rows, tuple) or len(rows) > _MAX_ROWS or not all([_is_event_row(row) for row in rows]):
        raise InvalidDay("no tuple of at most sixty rows")
    told = []
    for event, ahead, behind, many in rows:
        least, greatest = span_of(answer, event)
        told.append((max(0, least + ahead), greatest + behind, many))
    # A row of which no ticks are left ends ahead of its begin: it is no row of a lane.
    return Lane(tuple(told), opens=opens, pace=pace)


def _is_row(value):
    if not isinstance(value, tuple) or len(value) != 3:
        return False
    first, last, many = value
    return is_tick(first) and is_tick(last) and first <= last and is_between(many, 1, _MAX_MANY)


def _is_event_row(value):
    if not isinstance(value, tuple) or len(value) != 4:
        return False
    event, ahead, behind, many = value
    if not is_name(event) or not is_integer(ahead) or not is_integer(behind) or ahead > behind:
        return False
    return is_between(many, 1, _MAX_MANY)


def _is_arrival(value):
    return is_pair(value) and is_tick(value[0]) and is_integer(value[1]) and value[1] >= 1


def _without(rows, tick, many):
    """What is left of rows if so many of them come at a tick: those who have to come first, as far as they can."""
    left = []
    for begin, end, number in sorted(rows, key=lambda row: row[1]):
        coming = min(many, number) if begin <= tick <= end else 0
        many -= coming
        if coming < number:
            left.append((begin, end, number - coming))
    return left


def _need_stretch(first, last):
    for tick in (first, last):
        if not is_tick(tick):
            raise InvalidNumber(tick)
    if last < first:
        raise InvalidOperation("a stretch ends no earlier than it begins")


def _need_desks(desks):
    if not is_between(desks, 0, _MAX_MANY):
        raise InvalidNumber(desks)
