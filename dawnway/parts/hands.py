"""Hands: the fewest that do all tasks, and crowds of tasks that show that fewer do not."""

from dawnway.base.names import MAX_LENGTH, is_ascending, is_between, is_integer, is_name, is_pair, is_tick
from dawnway.errors import InvalidDay, InvalidNumber, UnknownName
from dawnway.parts.spans import need_table, span_of

MAX_TASKS = 60


class Crew:
    """Tasks at places, and walks between these. It never changes."""

    def __init__(self, tasks, *, walks=()):
        if not isinstance(tasks, tuple) or len(tasks) > MAX_TASKS or not all([_is_task(task) for task in tasks]):
            raise InvalidDay("no tuple of at most sixty tasks")
        told = {} if isinstance(walks, tuple) and len(walks) == 0 else walks
        if not _are_walks(told, [place for _, _, place in tasks]):
            raise InvalidDay("no walks between places")
        self._tasks = tasks
        self._walks = {pair: told[pair] for pair in sorted(told)}
        self._places = {place: True for _, _, place in tasks}
        for one, other in told:
            self._places[one] = True
            self._places[other] = True

    @property
    def tasks(self):
        """The tasks."""
        return self._tasks

    @property
    def walks(self):
        """The told walks."""
        return {pair: self._walks[pair] for pair in self._walks}

    def can_follow(self, task, other):
        """Whether a task can follow another one."""
        for index in (task, other):
            if not is_between(index, 0, len(self._tasks) - 1):
                raise InvalidNumber(index)
        return self._follows(task, other, 0)

    def walk(self, place, other):
        """The ticks from a place to another one."""
        for name in (place, other):
            if not isinstance(name, str) or name not in self._places:
                raise UnknownName(name)
        return self._walks.get((place, other), 0)

    def fewest(self):
        """The fewest hands."""
        return len(self.rosters())

    def rosters(self):
        """Any rosters with the fewest rows."""
        onward = {}
        behind = self._matched()
        for task in behind:
            onward[behind[task]] = task
        rows = []
        for first in range(len(self._tasks)):
            if first not in behind:
                row = [first]
                while row[-1] in onward:
                    row.append(onward[row[-1]])
                rows.append(tuple(row))
        return tuple(rows)

    def crowd(self):
        """Any greatest crowd."""
        behind = self._matched()
        taken = {behind[task]: True for task in behind}
        ahead = {task: True for task in range(len(self._tasks)) if task not in taken}
        reached = {}
        fresh = list(ahead)
        while fresh != []:
            task = fresh.pop()
            for other in range(len(self._tasks)):
                if self._follows(other, task, 0):
                    # All that can be reached is taken: else more tasks could be joined in rows.
                    reached[other] = True
                    if behind[other] not in ahead:
                        ahead[behind[other]] = True
                        fresh.append(behind[other])
        return tuple([task for task in range(len(self._tasks)) if task in ahead and task not in reached])

    def paper(self, hands):
        """Any rosters with at most so many rows, or any crowd with one task more, with the word that tells which."""
        _need_number(hands)
        crowd = self.crowd()
        if len(crowd) > hands:
            return "crowd", crowd[:hands + 1]
        return "rosters", self.rosters()

    def is_paper(self, hands, value):
        """Whether the value is such rosters or such a crowd."""
        _need_number(hands)
        if not is_pair(value):
            return False
        if value[0] == "rosters":
            return self.are_rosters(value[1]) and len(value[1]) <= hands
        return value[0] == "crowd" and self._is_crowd(value[1]) and len(value[1]) == hands + 1

    def are_rosters(self, value, *, longest=None, rest=0):
        """Whether the value is rosters, with duties that are not too long, and rests."""
        if longest is not None:
            _need_number(longest)
        _need_number(rest)
        if not isinstance(value, tuple) or not all([self._is_row(row, rest) for row in value]):
            return False
        if not is_ascending(value) or sorted([task for row in value for task in row]) != list(range(len(self._tasks))):
            return False
        return longest is None or max([0, *[self._duty(row) for row in value]]) <= longest

    def __len__(self):
        return len(self._tasks)

    def __eq__(self, other):
        if not isinstance(other, Crew):
            return False
        return self._tasks == other._tasks and _long_walks(self._walks) == _long_walks(other._walks)

    def __str__(self):
        return f"crew of {len(self._tasks)} tasks"

    def _follows(self, task, other, rest):
        """Whether a task can follow another one, with some ticks of rest between both."""
        first, _, place = self._tasks[task]
        _, last, away = self._tasks[other]
        return first >= last + self._walks.get((away, place), 0) + rest

    def _duty(self, row):
        """The ticks from the begin of the first task of a row to the end of the last one."""
        return self._tasks[row[-1]][1] - self._tasks[row[0]][0]

    def _is_row(self, value, rest):
        if not isinstance(value, tuple) or len(value) < 1:
            return False
        if not all([is_between(task, 0, len(self._tasks) - 1) for task in value]):
            return False
        return all([self._follows(value[at + 1], value[at], rest) for at in range(len(value) - 1)])

    def _is_crowd(self, value):
        if not isinstance(value, tuple) or not all([is_between(task, 0, len(self._tasks) - 1) for task in value]):
            return False
        return is_ascending(value) and not any([self._follows(task, other, 0) for task in value for other in value])

    def _matched(self):
        """The dict from as many tasks as can be to those that come ahead of them in a row."""
        behind = {}
        for task in range(len(self._tasks)):
            self._match(behind, {}, task)
        return behind

    def _match(self, behind, tried, task):
        """Finds a task to follow this one, also if others have to be followed by others then."""
        for other in range(len(self._tasks)):
            if other not in tried and self._follows(other, task, 0):
                tried[other] = True
                if other not in behind or self._match(behind, tried, behind[other]):
                    behind[other] = task
                    return True
        return False


def crew_by(answer, rows, *, walks=()):
    """The crew of the tasks that surely lie within the ticks of their events."""
    need_table(answer)
    if not isinstance(rows, tuple) or len(rows) > MAX_TASKS or not all([_is_event_row(row) for row in rows]):
        raise InvalidDay("no tuple of at most sixty rows")
    tasks = [(span_of(answer, first)[0], span_of(answer, last)[1], place) for first, last, place in rows]
    return Crew(tuple(tasks), walks=walks)


def _is_task(value):
    if not isinstance(value, tuple) or len(value) != 3:
        return False
    first, last, place = value
    return is_tick(first) and is_tick(last) and first < last and is_name(place)


def _is_event_row(value):
    if not isinstance(value, tuple) or len(value) != 3 or not all([is_name(part) for part in value]):
        return False
    return value[0] != value[1]


def _are_walks(walks, places):
    """Whether the value is a dict of walks that no way over a third place is shorter than."""
    if not isinstance(walks, dict):
        return False
    known = {place: True for place in places}
    for pair in walks:
        if not is_pair(pair) or not is_name(pair[0]) or not is_name(pair[1]) or pair[0] == pair[1]:
            return False
        if not is_between(walks[pair], 0, MAX_LENGTH):
            return False
        known[pair[0]] = True
        known[pair[1]] = True
    return all([_is_shortest(walks, pair, mid) for pair in walks for mid in known])


def _is_shortest(walks, pair, mid):
    one, other = pair
    return walks[pair] <= walks.get((one, mid), 0) + walks.get((mid, other), 0)


def _long_walks(walks):
    """The walks that take some time: the others are as if they were not told."""
    return {pair: walks[pair] for pair in walks if walks[pair] > 0}


def _need_number(value):
    if not is_integer(value) or value < 0:
        raise InvalidNumber(value)
