"""Courses, ways, and the plays that they make."""

from dawnway.base.names import is_ascending, is_between, is_pair, is_tick
from dawnway.errors import InvalidCourse, InvalidNumber, InvalidOperation, InvalidRow, InvalidWay, TooMany
from dawnway.net.needs import are_event_ticks, need_net
from dawnway.net.nets import Net
from dawnway.play.runs import MAX_AGAIN, Run, is_kept, looks_of, seen_by
from dawnway.rule.rows import is_row

MAX_ASKS = 2000


class Play:
    """A play that is told: what comes, and when. It never changes."""

    def __init__(self, net, course, rounds):
        need_net(net)
        need_course(net, course)
        run = _run_of(net, course, rounds)
        if run is None or run.as_rounds() != rounds:
            raise InvalidOperation("no rounds of the net in this course")
        self._net = net
        self._course = {name: course[name] for name in net.works}
        self._rounds = run.as_rounds()
        self._ticks = run.as_times()
        self._looks = looks_of(net)
        self._broken = tuple([word for word in net.told if not is_kept(net, self._course, self._ticks, net.row(word))])

    @property
    def net(self):
        """The net."""
        return self._net

    @property
    def course(self):
        """The lengths of the works."""
        return dict(self._course)

    @property
    def rounds(self):
        """The triples (tick, ends, deeds) of the ticks at which something comes."""
        return self._rounds

    @property
    def times(self):
        """The ticks of all events that came."""
        return dict(self._ticks)

    @property
    def broken(self):
        """The words of all told rows that are broken."""
        return self._broken

    @property
    def is_whole(self):
        """Whether all events came."""
        return len(self._ticks) == len(self._net)

    def seen_to(self, tick):
        """What was seen up to the tick."""
        _need_tick(tick)
        return seen_by(self._looks, self._ticks, tick)

    def is_broken(self, row):
        """Whether a row of the net is broken in the play."""
        if not is_row(self._net, row):
            raise InvalidRow("no row of the net")
        return not is_kept(self._net, self._course, self._ticks, row)

    def __len__(self):
        return len(self._rounds)

    def __eq__(self, other):
        if not isinstance(other, Play):
            return False
        return self._net == other._net and self._course == other._course and self._rounds == other._rounds

    def __str__(self):
        return f"play of {len(self._ticks)} events, {len(self._broken)} broken"


def is_course(net, value):
    """Whether the value is a course of the net."""
    need_net(net)
    works = net.works
    if not isinstance(value, dict) or len(value) != len(works):
        return False
    return all([name in value and is_between(value[name], works[name][2], works[name][3]) for name in works])


def each_course(net):
    """All courses, ascending by the tuples of their lengths."""
    need_net(net)
    works = net.works
    ranges = [works[name][2:4] for name in works]
    lengths = [least for least, _ in ranges]
    while lengths is not None:
        yield dict(zip(works, lengths))
        lengths = _next_lengths(ranges, lengths)


def seen_at(net, times, tick):
    """What is seen up to and including the tick, if events come at these times."""
    need_net(net)
    if not are_event_ticks(net, times):
        raise InvalidOperation("no dict from events of the net to ticks")
    _need_tick(tick)
    return seen_by(looks_of(net), times, tick)


def play(net, way, course):
    """The play of the way in the course."""
    need_net(net)
    need_way(way)
    need_course(net, course)
    return played(net, way, course)


def first_broken(net, way, courses):
    """The first of the courses in which the way breaks something, or None."""
    need_net(net)
    need_way(way)
    if not isinstance(courses, tuple) or not all([is_course(net, course) for course in courses]):
        raise InvalidCourse("no tuple of courses of the net")
    for course in courses:
        told = played(net, way, course)
        if told.broken != ():
            return told.course
    return None


def played(net, way, course):
    """The play of the way in the course, asked tick by tick; nothing is checked ahead."""
    lengths = dict(course)
    run = Run(net, lengths)
    looks = looks_of(net)
    done = {}
    tick = 0
    asked = 0
    while tick is not None:
        if asked == MAX_ASKS:
            raise TooMany(MAX_ASKS)
        asked += 1
        step = way(tick, seen_by(looks, run.as_times(), tick))
        if not _is_step(net, done, tick, step):
            raise InvalidWay("the way returns what it may not return")
        for deed in step[0]:
            done[deed] = True
            run.begin(deed, tick)
        tick = _next_ask(run, looks, tick, step[1])
    return Play(net, lengths, run.as_rounds())


def _is_step(net, done, tick, step):
    """Whether a way may return the step at the tick, behind the deeds that are done."""
    if not is_pair(step) or not isinstance(step[0], tuple):
        return False
    deeds, again = step
    if not all([deed in net.deeds and deed not in done for deed in deeds]):
        return False
    return is_ascending(deeds) and (again is None or is_between(again, tick + 1, MAX_AGAIN))


def _next_ask(run, looks, tick, again):
    """The tick at which a way is asked next, or None."""
    ticks = run.as_times()
    asks = [ticks[end] + looks[end] for end in looks if end in ticks and ticks[end] + looks[end] > tick]
    if again is not None:
        asks.append(again)
    if asks == [] or run.is_over(min(asks)):
        return None
    return min(asks)


def _next_lengths(ranges, lengths):
    """The lengths behind these in ascending order, or None behind the last ones."""
    for at in range(len(lengths) - 1, -1, -1):
        if lengths[at] < ranges[at][1]:
            return [*lengths[:at], lengths[at] + 1, *[least for least, _ in ranges[at + 1:]]]
    return None


def _run_of(net, course, rounds):
    """The run in which the deeds of the rounds come, or None if they are not of the form of rounds."""
    if not isinstance(rounds, tuple) or not all([_is_round(item) for item in rounds]):
        return None
    run = Run(net, course)
    for tick, _, deeds in rounds:
        for deed in deeds:
            run.begin(deed, tick)
    return run


def _is_round(value):
    if not isinstance(value, tuple) or len(value) != 3:
        return False
    return is_tick(value[0]) and isinstance(value[2], tuple)


def need_way(way):
    """Raises InvalidWay if the value is surely no way."""
    if way is None or isinstance(way, (bool, int, str, tuple, list, dict)):
        raise InvalidWay("no way")
    if isinstance(way, Net) or isinstance(way, Play):
        raise InvalidWay("no way")


def need_course(net, course):
    """Raises InvalidCourse unless the value is a course of the net."""
    if not is_course(net, course):
        raise InvalidCourse("no course of the net")


def _need_tick(tick):
    if not is_tick(tick):
        raise InvalidNumber(tick)
