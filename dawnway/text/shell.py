"""A shell: commands for a net and a beginning."""

from dawnway.base.names import DAWN, is_tick
from dawnway.errors import InvalidNet, InvalidNumber, InvalidOperation, NothingToUndo, ParseError, UnknownName
from dawnway.live.day import is_beginning, rest, verdict, verdicts
from dawnway.mends.spare import spare
from dawnway.net.needs import need_event, need_place, need_work
from dawnway.net.nets import Net
from dawnway.rule.tables import closure, is_safe
from dawnway.text.formats import write_day, write_net
from dawnway.text.words import read_line, words_of

_MAX_UNDONE = 100
_CHANGES = ("event", "work", "bound", "drop", "seen", "dawn")
_WITHOUT_NET = ("event", "log", "undo", "redo")
_FORMS = {
    "event": ("place", "integer"),
    "work": ("place", "place", "place", "integer", "integer", "integer"),
    "bound": ("place", "place", "place", "integer"),
    "drop": (("event", "work", "bound"), "place"),
    "seen": ("integer", "names"),
    "dawn": (),
    "undo": (),
    "redo": (),
    "net": (),
    "day": (),
    "answer": (),
    "verdict": ("place",),
    "verdicts": (),
    "spare": ("names",),
    "windows": ("names",),
    "log": (),
}


class Shell:
    """Takes commands for a net, at first none, and a beginning."""

    def __init__(self):
        # The net, the tick and what is seen: what was is put back as a whole.
        self._state = (None, None, ())
        self._log = []
        self._past = []
        self._undone = []

    def __call__(self, line):
        """Does a command and returns its result."""
        row = read_line(line, dict(_FORMS)) if isinstance(line, str) else None
        if row is None:
            raise ParseError(None)
        word, *values = row
        if self._state[0] is None and word not in _WITHOUT_NET:
            raise InvalidNet("there is no net")
        if word == "undo":
            return self._undo()
        if word == "redo":
            return self._redo()
        if word in _CHANGES:
            return self._change(line, _state_behind(self._state, word, values))
        return "\n".join(self._log) if word == "log" else _told(self._state, word, values)

    def __eq__(self, other):
        if not isinstance(other, Shell):
            return False
        return self._state == other._state

    def __str__(self):
        net, tick, _ = self._state
        upto = "ahead" if tick is None else f"at {tick}"
        many = 0 if net is None else len(net)
        return f"shell {upto}: {many} events"

    def _change(self, line, state):
        """Goes on to another state by a command."""
        self._past = [*self._past, self._state][-_MAX_UNDONE:]
        self._state = state
        self._log.append(line)
        self._undone = []
        return "done"

    def _undo(self):
        if self._past == []:
            raise NothingToUndo(0)
        self._undone.append((self._log.pop(), self._state))
        self._state = self._past.pop()
        return "done"

    def _redo(self):
        if self._undone == []:
            raise NothingToUndo(0)
        line, state = self._undone.pop()
        self._past.append(self._state)
        self._log.append(line)
        self._state = state
        return "done"


def _state_behind(state, word, values):
    """The net and the beginning behind a command that changes something."""
    net, tick, seen = state
    if word == "dawn":
        return net, None, ()
    if word == "seen":
        return _state_later(state, values[0], values[1])
    changed = _changed_net(net, word, values)
    if not is_beginning(changed, tick, seen):
        raise InvalidOperation("the beginning is none of the new net")
    return changed, tick, seen


def _state_later(state, tick, events):
    """The net and the beginning that goes on to a later tick, at which these events are seen."""
    net, last, seen = state
    for event in events:
        need_event(net, event)
    if not is_tick(tick) or last is not None and tick <= last:
        raise InvalidNumber(tick)
    later = (*seen, *[(tick, event) for event in sorted(events)])
    if not is_beginning(net, tick, later):
        raise InvalidOperation("no beginning of the net")
    return net, tick, later


def _changed_net(net, word, values):
    """The net with another event, work or bound, or without one."""
    lots = {"event": {}, "work": {}, "bound": {}}
    if net is not None:
        lots = {"event": net.lasts, "work": net.works, "bound": net.bounds}
    if word == "drop":
        word, name = values
        if name not in lots[word]:
            raise UnknownName(name)
        lots[word] = {other: lots[word][other] for other in lots[word] if other != name}
    elif word == "event":
        lots[word][values[0]] = values[1]
    else:
        need_place(net, values[1])
        need_place(net, values[2])
        lots[word][values[0]] = tuple(values[1:])
    return Net(lots["event"], lots["work"], lots["bound"])


def _told(state, word, values):
    """What a command that asks is told."""
    net, tick, seen = state
    if word == "net":
        return write_net(net)
    if word == "day":
        return write_day(net, tick, seen)
    if word == "answer":
        return "safe" if is_safe(rest(net, tick, seen)) else "barred"
    if word == "verdicts":
        told = verdicts(net, tick, seen)
        return "\n".join([words_of((name, told[name])) for name in told])
    if word == "verdict":
        if values[0] not in net.bounds:
            raise UnknownName(values[0])
        return verdict(net, tick, seen, values[0])
    return _spare_at(state, values[0]) if word == "spare" else _windows_of(state, values[0])


def _spare_at(state, works):
    """The spare of the rest at some works, as a word."""
    net, tick, seen = state
    for work in works:
        need_work(net, work)
    if works == ():
        raise InvalidOperation("a spare is asked for at one work at least")
    many = spare(rest(net, tick, seen), tuple(sorted(works)))
    return "none" if many is None else str(many)


def _windows_of(state, events):
    """The lines of the least and the greatest ticks of some events in the rest."""
    net, tick, seen = state
    for event in events:
        need_event(net, event)
    rows = closure(rest(net, tick, seen))
    if rows is None:
        return "barred"
    bounds, _ = rows
    return "\n".join([words_of((event, -bounds[(event, DAWN)], bounds[(DAWN, event)])) for event in events])
