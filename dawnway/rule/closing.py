"""Makes all rows that rules make of the told rows of a net, each with its reason.

What is made is told to a long list of lines; a line that is covered later stays there, for others
can hang on it. Events and works are told by indices here, as this is the part that has most to do.
"""

from dawnway.base.names import DAWN
from dawnway.rule.rows import lines_under

# No bound has such a number: it stands for none, and its opposite for no wait.
_FAR = 10 ** 41
# Two long told numbers add up to a longer one: the last line of a list then tells the least that a row can.
_LEAST = 1 - 10 ** 40


def closing_of(net):
    """The closing of all told rows of a net."""
    closing = Closing(net)
    closing.take_told()
    return closing


class Closing:
    """The least bounds and the greatest waits of a net, or a bound from an event to itself below 0."""

    def __init__(self, net):
        self._net = net
        self._events = sorted([DAWN, *net.events])
        self._places = {event: at for at, event in enumerate(self._events)}
        size = len(self._events)
        self._every = list(range(size))
        self._works = _placed_works(net, self._places)
        self._names = list(net.works)
        self._sums = [[_FAR] * size for _ in self._every]
        self._origins = [[None] * size for _ in self._every]
        self._waits = [[-_FAR] * size for _ in self._works]
        self._reasons = [[None] * size for _ in self._works]
        self._lines = []
        self._last = None
        for at in self._every:
            self._sums[at][at] = 0

    def take_told(self):
        """Makes all rows that rules make of the told rows of the net."""
        for word in self._net.told:
            _, first, second, most = self._net.row(word)
            self._take(self._places[first], self._places[second], most, word)
        # Over dawn each two events get a bound. So a told one that is far below 0 meets one that
        # leads back at once, and no sum becomes too long.
        self._join_over(self._places[DAWN])
        for mid in self._every:
            self._join_over(mid)
        self._go_on()

    def beside(self, first, second, most, word):
        """The closing of the same rows and one told bound more; this one stays as it is."""
        return self.beside_all([(first, second, most, word)])

    def beside_all(self, rows):
        """The closing of the same rows and some told bounds more; this one stays as it is."""
        other = Closing(self._net)
        other._sums = [list(row) for row in self._sums]
        other._origins = [list(row) for row in self._origins]
        other._waits = [list(row) for row in self._waits]
        other._reasons = [list(row) for row in self._reasons]
        other._lines = list(self._lines)
        other._last = self._last
        changed = False
        for first, second, most, word in rows:
            one = self._places[first]
            at = self._places[second]
            if other._take(one, at, most, word):
                other._join_back(one, at)
                other._join_over(at)
                changed = True
        if changed:
            other._go_on()
        return other

    def is_barred(self):
        """Whether a bound from an event to itself below 0 has come."""
        return self._last is not None

    def keeps(self, first, second, most):
        """Whether a bound for two events is covered by the one that is there."""
        return self.number(first, second) <= most

    def as_table(self):
        """The bounds and the waits of the closure, as two dicts, or None if there is none."""
        if self._last is not None:
            return None
        bounds = {}
        waits = {}
        for one, first in enumerate(self._events):
            for other, second in enumerate(self._events):
                if one != other:
                    bounds[(first, second)] = self._sums[one][other]
            for work, (_, end, _, _, _) in enumerate(self._works):
                if one != end:
                    waits[(first, self._names[work])] = self._waits[work][one]
        return bounds, waits

    def as_list(self):
        """The lines that lead to the bound below 0, if there is one."""
        return self._lines_to(self._last)

    def number(self, first, second):
        """The number of the bound for two different events that is there."""
        return self._sums[self._places[first]][self._places[second]]

    def lines_to(self, first, second):
        """The lines that lead to the bound for two different events that is there."""
        return self._lines_to(self._origins[self._places[first]][self._places[second]])

    def _lines_to(self, last):
        """The lines that lead to one of them."""
        used = lines_under(self._lines, last)
        places = {index: at for at, index in enumerate(used)}
        return tuple([self._told_line(places, index) for index in used])

    def _told_line(self, places, index):
        (kind, one, other, number), why = self._lines[index]
        second = self._events[other] if kind == "bound" else self._names[other]
        told = tuple([part if isinstance(part, str) else places[part] for part in why])
        return (kind, self._events[one], second, number), told

    def _go_on(self):
        """Makes rows by all rules until none makes a new one; by `joined` there is nothing to make at first."""
        changed = True
        while changed:
            self._all_early()
            for work in range(len(self._works)):
                self._wait(work)
            changed = self._all_sure()

    def _take(self, one, other, number, why):
        """Takes a bound if it is less than the one that is there, and none has come to be below 0."""
        if self._last is not None or number >= self._sums[one][other]:
            return False
        index = len(self._lines)
        self._lines.append((("bound", one, other, number), why))
        if one == other:
            self._last = index
            return True
        self._sums[one][other] = number
        self._origins[one][other] = index
        back = self._sums[other][one]
        if number + back < 0:
            row = ("bound", one, one, max(_LEAST, number + back))
            self._lines.append((row, ("joined", index, self._origins[other][one])))
            self._last = index + 1
        return True

    def _take_wait(self, work, at, number, why):
        """Takes a wait that is greater than the one that is there."""
        self._reasons[work][at] = len(self._lines)
        self._waits[work][at] = number
        self._lines.append((("wait", at, work, number), why))

    def _join_over(self, mid):
        """Makes the bounds that lead over one event."""
        for one in self._every:
            if self._last is None:
                self._join(one, mid)

    def _join(self, one, mid):
        """Makes the bounds from one event that lead over another one."""
        step = self._sums[one][mid]
        here = self._sums[one]
        onward = self._sums[mid]
        better = [at for at in self._every if step + onward[at] < here[at]]
        for at in better:
            self._take(one, at, step + onward[at], ("joined", self._origins[one][mid], self._origins[mid][at]))

    def _join_back(self, mid, other):
        """Makes the bounds to one event that lead over another one."""
        step = self._sums[mid][other]
        better = [at for at in self._every if self._sums[at][mid] + step < self._sums[at][other]]
        for at in better:
            number = self._sums[at][mid] + step
            self._take(at, other, number, ("joined", self._origins[at][mid], self._origins[mid][other]))

    def _all_early(self):
        """Makes bounds by `early` and `joined` until neither makes a lesser one."""
        changed = True
        while changed:
            changed = False
            for work in range(len(self._works)):
                if self._early(work):
                    changed = True

    def _early(self, work):
        """Makes the bounds of one work by `early`, and those that they make by `joined`."""
        begin, end, least, _, look = self._works[work]
        ahead = self._sums[end]
        taken = []
        for at in self._every:
            if at != end and ahead[at] < look:
                if self._take(begin, at, least + ahead[at], ("early", self._origins[end][at])):
                    taken.append(at)
        # All that was there is joined already: it is enough to go on from the new bounds once.
        for mid in taken:
            self._join(begin, mid)
        if taken != []:
            self._join_over(begin)
        return taken != []

    def _wait(self, work):
        """Makes the waits for one work until no rule makes a greater one of these bounds."""
        _, end, _, most, _ = self._works[work]
        waits = self._waits[work]
        if self._last is not None:
            return
        for at in self._every:
            if at != end and most - self._sums[at][end] > waits[at]:
                self._take_wait(work, at, most - self._sums[at][end], ("first", self._origins[at][end]))
        others = [other for other in self._works if other[1] != end and other[0] != end]
        # By `first` alone, nothing is made by `late`: only what `both` made leads on to more.
        for begin, _, _, _, _ in others:
            if self._lines[self._reasons[work][begin]][1][0] == "both":
                self._late(work, begin)
        changed = True
        while changed:
            changed = False
            for begin, other, least, _, _ in others:
                if waits[other] >= 1 and waits[other] - least > waits[begin]:
                    self._take_wait(work, begin, waits[other] - least, ("both", self._reasons[work][other]))
                    self._late(work, begin)
                    changed = True

    def _late(self, work, mid):
        """Makes the waits for one work by `late` of the wait of one event."""
        end = self._works[work][1]
        waits = self._waits[work]
        step = waits[mid]
        for at in self._every:
            if at != end and step - self._sums[at][mid] > waits[at]:
                why = ("late", self._origins[at][mid], self._reasons[work][mid])
                self._take_wait(work, at, step - self._sums[at][mid], why)

    def _all_sure(self):
        """Makes bounds by `sure` and `joined`; whether there was a lesser one."""
        changed = False
        for work in range(len(self._works)):
            if self._sure(work):
                changed = True
        return changed

    def _sure(self, work):
        """Makes the bounds of one work by `sure`, and those that they make by `joined`."""
        begin, end, least, _, look = self._works[work]
        taken = []
        for at in self._every:
            if at != end:
                number = -min(self._waits[work][at], least + look)
                if self._take(at, begin, number, ("sure", self._reasons[work][at])):
                    taken.append(at)
        for mid in taken:
            self._join_back(mid, begin)
        if taken != []:
            self._join_over(begin)
        return taken != []


def _placed_works(net, places):
    """The works, ascending by their names, with indices of their events."""
    works = net.works
    return [(places[works[name][0]], places[works[name][1]], *works[name][2:]) for name in works]
