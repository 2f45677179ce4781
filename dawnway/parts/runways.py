"""Runways: moves one after another, the sequences that fit, and tables that show that none ends early enough."""

from dawnway.base.names import is_name, is_names, is_pair, is_tick
from dawnway.errors import InvalidDay, InvalidNumber, InvalidOperation, TooMany

MAX_MOVES = 12


class Runway:
    """Moves of some kinds, each within a window, and gaps between them. It never changes."""

    def __init__(self, moves, gaps):
        if not _are_moves(moves):
            raise InvalidDay("no dict from names to moves")
        if not _are_gaps([moves[name][0] for name in moves], gaps):
            raise InvalidDay("no gaps of the kinds of the moves")
        if len(moves) > MAX_MOVES:
            raise TooMany(MAX_MOVES)
        self._moves = {name: moves[name] for name in sorted(moves)}
        self._gaps = {pair: gaps[pair] for pair in sorted(gaps)}

    @property
    def moves(self):
        """The moves by their names."""
        return dict(self._moves)

    @property
    def gaps(self):
        """The gaps by pairs of kinds."""
        return {pair: self._gaps[pair] for pair in self._gaps}

    @property
    def names(self):
        """The names of the moves, ascending."""
        return tuple(self._moves)

    def ticks(self, sequence):
        """The ticks of a sequence, or None if it does not fit."""
        if not self._is_sequence(sequence):
            raise InvalidOperation("no tuple of all moves")
        ticks = {}
        last = None
        for name in sequence:
            ticks[name] = self._tick_behind(last, None if last is None else ticks[last], name)
            if ticks[name] is None:
                return None
            last = name
        return {name: ticks[name] for name in self._moves}

    def end(self, sequence):
        """The end of a sequence, or None if it does not fit."""
        ticks = self.ticks(sequence)
        if ticks is None:
            return None
        return 0 if sequence == () else ticks[sequence[-1]]

    def least_end(self):
        """The least end of the sequences that fit, or None if none does."""
        if self._moves == {}:
            return 0
        return _least_whole(self._least_table(), len(self._moves))

    def best(self):
        """The least sequence with the least end, or None."""
        end = self.least_end()
        if end is not None:
            for sequence in self.each_sequence(end):
                return sequence
        return None

    def each_sequence(self, tick):
        """All sequences that fit and end by the tick, ascending."""
        if not is_tick(tick):
            raise InvalidNumber(tick)
        latest = self._latest_ticks(tick)
        stack = [((), None)]
        while stack != []:
            sequence, at = stack.pop()
            if len(sequence) == len(self._moves):
                yield sequence
            # The last one of the stack is looked at first.
            stack.extend(self._longer(latest, sequence, at)[::-1])

    def paper(self, tick):
        """Any sequence that ends by the tick, or any closed table that shows that there is none."""
        if not is_tick(tick):
            raise InvalidNumber(tick)
        end = self.least_end()
        if end is not None and end <= tick:
            return "by", self.best()
        table = self._least_table()
        return "table", {key: table[key] for key in sorted(table)}

    def is_paper(self, tick, value):
        """Whether the value is such a sequence or such a table."""
        if not is_tick(tick):
            raise InvalidNumber(tick)
        if not is_pair(value):
            return False
        if value[0] == "by":
            end = self.end(value[1]) if self._is_sequence(value[1]) else None
            return end is not None and end <= tick
        if value[0] != "table" or self._moves == {} or not self._is_table(value[1]):
            return False
        end = _least_whole(value[1], len(self._moves))
        return self._is_closed(value[1]) and (end is None or end > tick)

    def __len__(self):
        return len(self._moves)

    def __eq__(self, other):
        if not isinstance(other, Runway):
            return False
        return self._moves == other._moves and self._gaps == other._gaps

    def __str__(self):
        return f"runway with {len(self._moves)} moves"

    def _is_sequence(self, value):
        if not isinstance(value, tuple) or not all([isinstance(name, str) for name in value]):
            return False
        return sorted(value) == list(self._moves)

    def _tick_behind(self, last, at, name):
        """The tick of a move behind another one at a tick, or as the first one; None if it is too late."""
        kind = None if last is None else self._moves[last][0]
        return self._tick_after(kind, at, name)

    def _tick_after(self, ahead, at, name):
        """The tick of a move behind one of the kind `ahead`, or None if it is too late."""
        kind, first, last = self._moves[name]
        tick = first if ahead is None else max(first, at + self._gaps[(ahead, kind)])
        return tick if tick <= last else None

    def _least_table(self):
        """The closed table with the least ticks."""
        table = {}
        fresh = {((name,), self._moves[name][0]): self._moves[name][1] for name in self._moves}
        while fresh != {}:
            for key in fresh:
                table[key] = fresh[key]
            fresh = self._next_rows(fresh)
        return table

    def _next_rows(self, rows):
        """The rows with one move more that the rows of a table ask for, with the least ticks."""
        found = {}
        for key in rows:
            for longer, tick in self._asked(key, rows[key]):
                if longer not in found or tick < found[longer]:
                    found[longer] = tick
        return found

    def _asked(self, key, at):
        """The pairs of a key with one move more and the tick that a row of a table asks for."""
        names, ahead = key
        asked = []
        for name in self._moves:
            if name not in names:
                tick = self._tick_after(ahead, at, name)
                if tick is not None:
                    asked.append((self._key_with(names, name), tick))
        return asked

    def _key_with(self, names, name):
        return tuple(sorted((*names, name))), self._moves[name][0]

    def _latest_ticks(self, end):
        """For moves and the kind of the last one the latest tick of this one with which all others come by the end."""
        latest = {}
        for key in list(self._least_table())[::-1]:
            if len(key[0]) == len(self._moves):
                latest[key] = end
            else:
                ticks = self._ticks_ahead(latest, key)
                if ticks != []:
                    latest[key] = max(ticks)
        return latest

    def _ticks_ahead(self, latest, key):
        """The latest ticks of the last of some moves if one of the others comes next, for each of these that can."""
        names, ahead = key
        ticks = []
        for name in self._moves:
            if name not in names and self._key_with(names, name) in latest:
                kind, first, last = self._moves[name]
                bound = min(last, latest[self._key_with(names, name)])
                if first <= bound:
                    ticks.append(bound - self._gaps[(ahead, kind)])
        return ticks

    def _longer(self, latest, sequence, at):
        """The pairs of a sequence that is longer by one move and its last tick, if it can go on in time, ascending."""
        found = []
        last = None if sequence == () else sequence[-1]
        for name in self._moves:
            if name not in sequence:
                tick = self._tick_behind(last, at, name)
                key = self._key_with(sequence, name)
                if tick is not None and key in latest and tick <= latest[key]:
                    found.append(((*sequence, name), tick))
        return found

    def _is_table(self, value):
        """Whether the value is a dict from pairs of names and the kind of one of them to ticks."""
        if not isinstance(value, dict):
            return False
        for key in value:
            if not is_pair(key) or not is_names(key[0]) or not is_tick(value[key]):
                return False
            names, kind = key
            if not all([name in self._moves for name in names]):
                return False
            if kind not in [self._moves[name][0] for name in names]:
                return False
        return True

    def _is_closed(self, table):
        """Whether a table has all rows that moves and its own rows ask for."""
        for name in self._moves:
            kind, first, _ = self._moves[name]
            if not _is_there(table, ((name,), kind), first):
                return False
        return all([_is_there(table, longer, tick) for key in table for longer, tick in self._asked(key, table[key])])


def _are_moves(value):
    return isinstance(value, dict) and all([is_name(name) and _is_move(value[name]) for name in value])


def _is_move(value):
    if not isinstance(value, tuple) or len(value) != 3:
        return False
    kind, first, last = value
    return is_name(kind) and is_tick(first) and is_tick(last) and first <= last


def _are_gaps(kinds, value):
    """Whether the value is a dict from just the pairs of the kinds to ticks that keep the triangle."""
    if not isinstance(value, dict):
        return False
    several = sorted(set([kind for kind in kinds]))
    pairs = {(one, other): True for one in several for other in several}
    if len(value) != len(pairs) or not all([pair in pairs and is_tick(value[pair]) for pair in value]):
        return False
    return all([_is_least(value, pair, mid) for pair in pairs for mid in several])


def _is_least(gaps, pair, mid):
    """Whether the gap is at most that of both gaps over a third kind."""
    one, other = pair
    return gaps[pair] <= gaps[(one, mid)] + gaps[(mid, other)]


def _is_there(table, key, tick):
    """Whether a table has the pair, with at most this tick."""
    return key in table and table[key] <= tick


def _least_whole(table, many):
    """The least tick of a table for so many names, or None."""
    return min([table[key] for key in table if len(key[0]) == many], default=None)
