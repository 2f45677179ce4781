"""Connections: deeds that wait for feeders, for so long, and which of these they leave or catch."""

from dawnway.base.names import MAX_LENGTH, is_between, is_pair, is_seen, is_tick
from dawnway.errors import InvalidCourse, InvalidDay, InvalidNumber, InvalidOperation, TooMany, UnknownName
from dawnway.net.nets import Net
from dawnway.parts.cases import CaseBook
from dawnway.parts.feeding import are_deeds, are_works, hanging_order, next_up, tick_by, ticks_in
from dawnway.play.runs import MAX_AGAIN

MAX_CASES = 4096


class Rules:
    """Works, and deeds that wait for feeders. They never change."""

    def __init__(self, works, deeds):
        if not are_works(works) or not are_deeds(deeds):
            raise InvalidDay("no dicts of works and deeds")
        self._works = {name: works[name] for name in sorted(works)}
        self._deeds = {event: deeds[event] for event in sorted(deeds)}
        self._order = hanging_order(self._works, self._deeds)
        if self._order is None:
            raise InvalidDay("an event is no end and no deed, or both, or hangs on itself")
        lasts = self._ticks_in(self._longest())
        if max([lasts[event] for event in lasts]) > MAX_LENGTH:
            raise InvalidDay("a tick above 10 ** 30")
        self._pairs = tuple(sorted([(one, deed) for deed in self._deeds for one, _, _ in self._deeds[deed][1]]))
        self._book = CaseBook(self._works, self._deeds)

    @property
    def works(self):
        """The works by their names."""
        return dict(self._works)

    @property
    def deeds(self):
        """The due ticks and the feeders of the deeds."""
        return dict(self._deeds)

    @property
    def events(self):
        """The events, ascending."""
        return tuple(sorted(self._order))

    @property
    def pairs(self):
        """The pairs of a feeder and a deed, ascending."""
        return self._pairs

    def ticks(self, course):
        """The ticks of all events in the course."""
        self._need_course(course)
        return self._ticks_in(course)

    def left(self, course):
        """The pairs that are left in the course."""
        self._need_course(course)
        ticks = self._ticks_in(course)
        return tuple([pair for pair in self._pairs if self._is_left(ticks, pair)])

    def as_net(self):
        """The net with these works, whose last ticks are those of the course of all greatest lengths."""
        return Net(self._ticks_in(self._longest()), {name: (*self._works[name], 0) for name in self._works})

    def way(self):
        """The rules as a way of their net."""
        deeds = self._deeds

        def ruled(tick, seen):
            """The deeds whose tick is there, and the next tick at which one comes if nothing more is seen."""
            if not is_tick(tick) or not is_seen(seen):
                raise InvalidOperation("no tick, or nothing that is seen")
            return _step_of(deeds, tick, seen)

        return ruled

    def paper(self, question):
        """Any course in which the question is true, or any tree that shows that there is none."""
        self._need_question(question)
        for course in (self._shortest(), self._longest()):
            if self._is_true(question, course):
                return "course", course
        events = self._hung_events(question[2])
        deeds = [event for event in events if event in self._deeds]
        many = 1
        for deed in deeds:
            many *= len(self._book.cases(deed))
        if many > MAX_CASES:
            raise TooMany(MAX_CASES)
        kind, found = self._book.found(self._bound_of(question), events, deeds)
        return kind, {**self._shortest(), **found} if kind == "course" else found

    def is_paper(self, question, value):
        """Whether the value is such a course or such a tree."""
        self._need_question(question)
        if not is_pair(value):
            return False
        if value[0] == "course":
            return self._is_course(value[1]) and self._is_true(question, value[1])
        return value[0] == "tree" and self._book.is_tree(self._bound_of(question), value[1])

    def sure(self):
        """The pairs that are caught in each course."""
        return tuple([(one, deed) for one, deed in self._pairs if self.paper(("left", one, deed))[0] == "tree"])

    def with_wait(self, deed, feeder, wait):
        """The rules in which a deed waits so long for a feeder."""
        if not isinstance(deed, str) or deed not in self._deeds:
            raise UnknownName(deed)
        due, feeders = self._deeds[deed]
        if feeder not in [one for one, _, _ in feeders]:
            raise UnknownName(feeder)
        if not is_tick(wait):
            raise InvalidNumber(wait)
        changed = tuple([(one, walk, wait if one == feeder else until) for one, walk, until in feeders])
        return Rules(self._works, {**self._deeds, deed: (due, changed)})

    def __len__(self):
        return len(self._pairs)

    def __eq__(self, other):
        if not isinstance(other, Rules):
            return False
        return self._works == other._works and self._deeds == other._deeds

    def __str__(self):
        return f"rules of {len(self._pairs)} pairs"

    def _shortest(self):
        """The course of all least lengths."""
        return {name: self._works[name][2] for name in self._works}

    def _longest(self):
        """The course of all greatest lengths."""
        return {name: self._works[name][3] for name in self._works}

    def _is_course(self, value):
        if not isinstance(value, dict) or len(value) != len(self._works):
            return False
        works = self._works
        return all([name in value and is_between(value[name], works[name][2], works[name][3]) for name in works])

    def _need_course(self, value):
        if not self._is_course(value):
            raise InvalidCourse("no course of the rules")

    def _need_question(self, value):
        if not isinstance(value, tuple) or len(value) != 3 or value[0] not in ("left", "caught"):
            raise InvalidOperation("no question about a pair")
        if value[1:] not in self._pairs:
            raise InvalidOperation("no question about a pair of the rules")

    def _ticks_in(self, course):
        return ticks_in(self._works, self._deeds, self._order, course)

    def _walk(self, pair):
        """The ticks from a feeder to its deed."""
        return [walk for one, walk, _ in self._deeds[pair[1]][1] if one == pair[0]][0]

    def _is_left(self, ticks, pair):
        feeder, deed = pair
        return ticks[feeder] + self._walk(pair) > ticks[deed]

    def _is_true(self, question, course):
        return self._is_left(self._ticks_in(course), question[1:]) == (question[0] == "left")

    def _bound_of(self, question):
        """The bound that holds exactly if the question is true."""
        word, feeder, deed = question
        walk = self._walk((feeder, deed))
        return (feeder, deed, walk - 1) if word == "left" else (deed, feeder, -walk)

    def _hung_events(self, deed):
        """The events on which a deed hangs, itself among them, each one ahead of those on which it hangs."""
        ended = {self._works[name][1]: name for name in self._works}
        hung = {deed: True}
        for event in self._order[::-1]:
            if event in hung:
                for one in next_up(self._works, self._deeds, ended, event):
                    hung[one] = True
        return [event for event in self._order[::-1] if event in hung]


def _step_of(deeds, tick, seen):
    """What the way of the rules returns."""
    known = {event: at for at, event in seen}
    done = _deeds_at(deeds, known, tick)
    for deed in done:
        known[deed] = tick
    coming = [tick_by(deeds[deed], known) for deed in deeds if deed not in known]
    return tuple(done), min([at for at in coming if at <= MAX_AGAIN], default=None)


def _deeds_at(deeds, known, tick):
    """The deeds that come at a tick behind what is known, ascending; also those that others of them feed."""
    done = {}
    found = [True]
    while found != []:
        ticks = {**known, **done}
        found = [deed for deed in deeds if deed not in ticks and tick_by(deeds[deed], ticks) <= tick]
        for deed in found:
            done[deed] = tick
    return sorted(done)
