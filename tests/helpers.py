"""Nets, odd values and slow but plain reckonings that several tests use."""

import random
from itertools import combinations, product

from dawnway.errors import DayError, UnknownName
from dawnway.live.day import Live
from dawnway.net.nets import Net
from dawnway.parts.belts import Belt
from dawnway.parts.connections import Rules
from dawnway.parts.days import Day
from dawnway.parts.hands import Crew
from dawnway.parts.lanes import Lane
from dawnway.parts.runways import Runway
from dawnway.play.plays import Play, each_course
from dawnway.rule.rows import covers, made
from dawnway.rule.tables import closure
from dawnway.text.shell import Shell
from dawnway.walk.walks import Walk

DAY = Net(
    {"board": 60, "land": 40, "off": 60},
    {"fly": ("dawn", "land", 10, 30, 0)},
    {
        "crew": ("land", "off", 20),
        "late": ("board", "off", 25),
        "turn": ("off", "board", -10),
        "walk": ("board", "land", -5),
    },
)
HARD = Net(
    {"board": 60, "land": 40, "off": 60},
    {"fly": ("dawn", "land", 10, 30, 0)},
    {"walk": ("board", "land", -5), "soon": ("land", "board", 4)},
)
LINES = (
    (("bound", "board", "land", -5), ("bound", "walk")),
    (("bound", "land", "board", 4), ("bound", "soon")),
    (("bound", "land", "land", -1), ("joined", 1, 0)),
)
BARE = Net(
    {"a": 9, "b": 9, "c": 9},
    (),
    {"ab": ("a", "b", 2), "bc": ("b", "c", 3), "ca": ("c", "a", -4), "long": ("a", "c", 5)},
)
# A chain: the taxi begins by the end of the flight; the storm is seen two ticks late.
CHAIN = Net(
    {"call": 30, "clear": 20, "gate": 30, "land": 20, "go": 40},
    {
        "fly": ("dawn", "land", 3, 5, 0),
        "storm": ("dawn", "clear", 2, 6, 2),
        "taxi": ("land", "gate", 1, 3, 1),
        "tow": ("call", "go", 2, 2, 0),
    },
    {"meet": ("gate", "call", 4), "wait": ("call", "clear", 0)},
)
# Together these two cannot be: the deed at most two ticks behind the end, and ahead of it never.
LATE = Net(
    {"a": 9, "e": 9},
    {"w": ("dawn", "e", 2, 5, 3)},
    {"near": ("e", "a", 2), "behind": ("a", "e", 0)},
)
STAND = Net(
    {"ina": 50, "inb": 50, "outa": 50, "outb": 50},
    {},
    {"staya": ("outa", "ina", -3), "stayb": ("outb", "inb", -2)},
)
PLACED = Day(
    STAND,
    ("s1",),
    uses={"a": ("s1", "ina", "outa", "big"), "b": ("s1", "inb", "outb", "small")},
    gaps={("s1", "big", "small"): 2},
)
CREW = Crew(((0, 4, "a"), (5, 9, "a"), (5, 8, "b"), (9, 12, "b")), walks={("a", "b"): 2, ("b", "a"): 2})
BELT = Belt({"x": (0, 2), "y": (3, 3)}, (("x", 1, 2, 3, 5), ("y", 0, 1, 2, 1)), room=2)
LANE = Lane(((0, 4, 6), (3, 9, 4)), opens=2)
RUNWAY = Runway(
    {"a": ("jet", 0, 9), "b": ("prop", 0, 9), "c": ("jet", 3, 4)},
    {("jet", "jet"): 2, ("jet", "prop"): 4, ("prop", "jet"): 1, ("prop", "prop"): 2},
)
RULES = Rules(
    {"fly": ("dawn", "in", 3, 9), "hop": ("dawn", "near", 1, 12)}, {"go": (8, (("in", 2, 2), ("near", 1, 4)))},
)
LIVE = Live(DAY, tick=12, seen=((12, "land"),))


def odd_values():
    """Values of all kinds that a wrong argument can have."""
    return [
        None, True, False, 0, 1, -1, 7, 10 ** 34, 10 ** 34 + 1, 10 ** 39, 10 ** 40, -(10 ** 40), 10 ** 59,
        "", "a", "dawn", "land", "fly", "1a", "A", "a b", "a\nb", "x" * 9000,
        (), ("a",), ("b", "a"), (1, 2), ((),), ([],), ({},), (None,), ("a", ()), (("a", "b"), ("c", "d")),
        ((0, "a"),), ((1, "a"), (0, "b")), ("bound", []), ([], "a"), ("table", {}, {}), ("list", ()), ("times", {}),
        ("ring", ()), ("bound", "a", "b", True), ("bound", [], {}, 0), ({}, {}), ({1: 2}, {3: 4}), ("joined", 0, 0),
        [], [()], ["a"], [[[[[[[[]]]]]]]], ((((((((),),),),),),),), {}, {1: 2}, {"a": 1}, {"a": True}, {None: None},
        {("a", "b"): 1}, {"fly": 17}, {"fly": [17]}, {True: 1, "a": 2}, {(): {}},
        DAY, BARE, Play(BARE, {}, ()), DayError("x"), UnknownName("x"),
        Walk(DAY, *closure(DAY)), PLACED, CREW, BELT, LANE, RUNWAY, RULES, LIVE, Shell(),
    ]


def is_same(one, other):
    """Whether both are equal, with equal kinds all the way down and dicts in one sequence."""
    if type(one) is not type(other):
        return False
    if isinstance(one, (list, tuple)):
        return len(one) == len(other) and all(is_same(a, b) for a, b in zip(one, other))
    if isinstance(one, dict):
        return list(one) == list(other) and all(is_same(one[key], other[key]) for key in one)
    return one == other


def shown(value):
    """A text of the value that tells each change of it, nets and plays included."""
    if isinstance(value, Net):
        return f"net {shown((value.lasts, value.works, value.bounds))}"
    if isinstance(value, Play):
        return f"play {shown((value.net, value.course, value.rounds))}"
    if isinstance(value, Walk):
        return f"walk {shown((value.net, value.tick, value.seen, value.under_way, value.next()))}"
    if isinstance(value, Day):
        return f"day {shown((value.net, value.places, value.uses, value.gaps, value.promises))}"
    if isinstance(value, Crew):
        return f"crew {shown((value.tasks, value.walks))}"
    if isinstance(value, Belt):
        return f"belt {shown((value.flights, value.lots, value.room))}"
    if isinstance(value, Lane):
        return f"lane {shown((value.rows, value.opens, value.pace))}"
    if isinstance(value, Runway):
        return f"runway {shown((value.moves, value.gaps))}"
    if isinstance(value, Rules):
        return f"rules {shown((value.works, value.deeds))}"
    if isinstance(value, Live):
        return f"live {shown((value.net, value.tick, value.seen, value.rest, value.broken, value.under_way))}"
    if isinstance(value, Shell):
        return f"shell {value} {value('log')}"
    if isinstance(value, dict):
        return "{" + ", ".join(f"{shown(key)}: {shown(value[key])}" for key in value) + "}"
    if isinstance(value, (list, tuple)):
        return f"{type(value).__name__}[" + ", ".join(shown(item) for item in value) + "]"
    return repr(value)


def are_keys_ascending(value):
    """Whether the keys of all dicts in the value ascend."""
    if isinstance(value, dict):
        return list(value) == sorted(value) and all(are_keys_ascending(value[key]) for key in value)
    if isinstance(value, (list, tuple)):
        return all(are_keys_ascending(item) for item in value)
    return True


def random_net(seed, *, events=4, works=2, bounds=4, horizon=6, longest=3, look=2):
    """A small net; equal for equal arguments."""
    rng = random.Random(seed)
    names = list("abcdefgh")[:events]
    order = rng.sample(names, events)
    ends = rng.sample(order, works)
    begun, chosen = {}, {}
    for index, end in enumerate(ends):
        begin = rng.choice(["dawn"] + order[:order.index(end)])
        least = rng.randint(1, longest)
        begun[begin] = True
        chosen[f"w{index}"] = (begin, end, least, rng.randint(least, longest), rng.choice([0, rng.randint(0, look)]))
    for name, work in chosen.items():
        if work[1] in begun:
            chosen[name] = (*work[:4], 0)
    lasts = {name: rng.randint(max(1, horizon - 3), horizon) for name in names}
    told = {}
    for index in range(bounds):
        first, second = rng.sample(["dawn"] + names, 2)
        told[f"b{index}"] = (first, second, rng.randint(-3, 4))
    return Net(lasts, chosen, told)


def crossed_net(seed, *, works=2, bounds=2, horizon=9, longest=4, look=2):
    """A small net with bounds between ends above all, in which a deed has to wait for the end of another work."""
    rng = random.Random(seed)
    deeds = [f"d{index}" for index in range(works)]
    ends, begun, chosen = [], {}, {}
    for index in range(works):
        begin = rng.choice(["dawn", *deeds, *ends])
        least = rng.randint(1, longest)
        chosen[f"w{index}"] = (begin, f"e{index}", least, rng.randint(least, longest + 1), rng.choice([0, rng.randint(0, look)]))
        begun[begin] = True
        ends.append(f"e{index}")
    for name, work in chosen.items():
        if work[1] in begun:
            chosen[name] = (*work[:4], 0)
    told = {}
    for index in range(bounds):
        first, second = rng.sample(ends if rng.random() < 0.7 else deeds + ends, 2)
        told[f"b{index}"] = (first, second, rng.randint(-2, 4))
    return Net({name: rng.randint(horizon - 2, horizon) for name in deeds + ends}, chosen, told)


def random_bare(seed, *, events=3, bounds=4, horizon=4):
    """A small net without works."""
    return random_net(seed, events=events, works=0, bounds=bounds, horizon=horizon)


def all_times(net):
    """All times of a small net, by trying all ticks."""
    rows = [net.row(word)[1:] for word in net.told]
    found = []
    for ticks in product(*[range(net.lasts[event] + 1) for event in net.events]):
        at = {"dawn": 0, **dict(zip(net.events, ticks))}
        if all(at[second] <= at[first] + most for first, second, most in rows):
            found.append(dict(zip(net.events, ticks)))
    return found


def closure_by_adding(net, seed):
    """The closure by adding row after row in some sequence, or None if a bound (P, P, x) with x below 0 is made."""
    rng = random.Random(seed)
    best, queue = {}, []

    def add(row):
        if row is None:
            return True
        if row[0] == "bound" and row[1] == row[2]:
            return row[3] >= 0
        if row[:3] not in best or not covers(net, (*row[:3], best[row[:3]]), row):
            best[row[:3]] = row[3]
            queue.append(row)
        return True

    told = [net.row(word) for word in net.told]
    rng.shuffle(told)
    going = all([add(row) for row in told])
    while going and queue:
        row = queue.pop(rng.randrange(len(queue)))
        new = [made(net, rule, row) for rule in ("early", "first", "both", "sure")]
        for other in [(*key, number) for key, number in best.items()]:
            for rule in ("joined", "late"):
                new += [made(net, rule, row, other=other), made(net, rule, other, other=row)]
        going = all([add(made_row) for made_row in new])
    if not going:
        return None
    pairs = [{key[1:]: best[key] for key in sorted(best) if key[0] == kind} for kind in ("bound", "wait")]
    return pairs[0], pairs[1]


def is_winnable(net):
    """Whether some way keeps a small net, by trying all that a house can do at each tick."""
    courses = list(each_course(net))
    roads = {event: net.road(event) for event in net.events}
    looks = {net.works[work][1]: net.works[work][4] for work in net.works}
    rows = [net.row(word)[1:] for word in net.told]

    def ticks_in(done, course):
        return {
            event: done.get(root, 0) + sum(course[work] for work in chain)
            for event, (root, chain) in roads.items() if root == "dawn" or root in done
        }

    def seen_in(done, course, tick):
        ticks = ticks_in(done, course)
        return tuple(sorted((ticks[end] + looks[end], end) for end in looks if end in ticks
                            and ticks[end] + looks[end] <= tick))

    def is_good(done, course):
        ticks = {"dawn": 0, **ticks_in(done, course)}
        return all(ticks[second] <= ticks[first] + most for first, second, most in rows)

    def is_won(tick, done, group):
        left = [deed for deed in net.deeds if deed not in done]
        if tick == net.horizon or left == []:
            return all(is_good({**done, **{deed: tick for deed in left}}, course) for course in group)
        for many in range(len(left) + 1):
            for now in combinations(left, many):
                new = {**done, **{deed: tick for deed in now}}
                if all(is_won(tick + 1, new, part) for part in split(tick + 1, new, group)):
                    return True
        return False

    def split(tick, done, group):
        parts = {}
        for course in group:
            parts.setdefault(seen_in(done, course, tick), []).append(course)
        return list(parts.values())

    return all(is_won(0, {}, part) for part in split(0, {}, courses))


def walk_of(net, bounds, waits):
    """A way that does, tick by tick, the greatest set of deeds that the rows of a closed table let come."""
    looks = {net.works[work][1]: net.works[work][4] for work in net.works}

    def known_of(seen):
        return {"dawn": 0, **{event: tick - looks.get(event, 0) for tick, event in seen}}

    def has_to_be(event, most, tick, known):
        if event in known:
            return known[event] <= tick + most
        work = net.work_of(event)
        if work is None or net.works[work][0] not in known:
            return False
        return tick >= known[net.works[work][0]] + net.works[work][3] - most

    def is_free(deed, beside, tick, known):
        for (first, second), most in bounds.items():
            if first == deed and most <= 0 and not has_to_be(second, most, tick, known):
                if most < 0 or second not in beside:
                    return False
        for (event, work), wait in waits.items():
            begin, end = net.works[work][:2]
            if event == deed and end not in known:
                if not (tick >= known[begin] + wait if begin in known else wait <= 0):
                    return False
        return True

    def way(tick, seen):
        known = known_of(seen)
        free = [deed for deed in net.deeds if deed not in known]
        kept = None
        while kept != free:
            kept, free = free, [deed for deed in free if is_free(deed, free, tick, known)]
        return tuple(free), tick + 1 if tick < net.horizon else None

    return way


def random_way(net, seed, last):
    """A way that does deeds at odds that hang on the tick and on what is seen, up to a last tick."""
    def way(tick, seen):
        rng = random.Random(f"{seed} {tick} {seen}")
        done = [event for _, event in seen]
        left = [deed for deed in net.deeds if deed not in done]
        now = tuple(deed for deed in left if tick >= last or rng.random() < 0.3)
        return now, tick + 1 if len(now) < len(left) else None

    return way
