"""The live day: [21.1] to [21.6]."""

import random
import unittest
from itertools import combinations, product

from dawnway.errors import InvalidNet, InvalidNumber, InvalidOperation, TooMany, UnknownName
from dawnway.live import day as live_day
from dawnway.live.day import (
    Live, is_beginning, is_verdict_paper, rest, verdict, verdict_paper, verdicts,
)
from dawnway.net.nets import Net
from dawnway.net.times import are_times, has_times, is_times_paper, times_paper
from dawnway.play.plays import each_course, seen_at
from dawnway.rule.rows import is_list, list_fault
from dawnway.rule.tables import answer, closure, is_answer, is_closed, is_safe
from dawnway.walk.walks import free_deeds
from tests.helpers import CHAIN, DAY, HARD, LINES, are_keys_ascending, is_same, odd_values, random_net

NET = Net({"in": 9, "on": 12, "off": 20}, {"fly": ("dawn", "in", 2, 5, 0), "load": ("in", "on", 1, 3, 0)},
          {"slot": ("dawn", "off", 6), "ready": ("off", "on", 0), "turn": ("in", "on", 3)})
LATE = Net({"a": 9, "e": 9, "f": 9}, {"v": ("a", "f", 1, 2, 1), "w": ("dawn", "e", 2, 4, 2)}, {"x": ("a", "e", 3), "y": ("f", "a", 5)})


def small_nets(count=14, **more):
    given = {"events": 3, "works": 1, "bounds": 3, "horizon": 5, **more}
    return [random_net(seed, **{**given, "works": seed % 3, "events": 3 + seed % 2}) for seed in range(count)]


def all_beginnings(net, tick):
    """All beginnings up to a tick: what is seen in some course of some doing."""
    deeds = net.deeds
    found = {}
    for course in each_course(net):
        for ticks in product(range(tick + 2), repeat=len(deeds)):
            done = {deed: at for deed, at in zip(deeds, ticks) if at <= tick}
            times = dict(done)
            for end in net.ends:
                root, chain = net.road(end)
                if root == "dawn" or root in done:
                    times[end] = done.get(root, 0) + sum(course[work] for work in chain)
            found[seen_at(net, times, tick)] = True
    return list(found)


def known_in(net, seen):
    looks = {work[1]: work[4] for work in net.works.values()}
    return {"dawn": 0, **{event: tick - looks.get(event, 0) for tick, event in seen}}


def plain_rest(net, tick, seen):
    """The rest, as [21.2] tells it."""
    if tick is None:
        return net
    known = known_in(net, seen)
    works, lasts, bounds = {}, net.lasts, net.bounds
    for name, (begin, end, least, most, look) in net.works.items():
        if end in known:
            least = most = known[end] - known[begin]
        elif begin in known:
            least = max(least, tick + 1 - look - known[begin])
        works[name] = (begin, end, least, most, look)
    for _, event in seen:
        lasts[event] = min(lasts[event], known[event])
    for index, deed in enumerate(sorted(net.deeds)):
        bounds[f"deed.{index}"] = (deed, "dawn", -known[deed] if deed in known else -(tick + 1))
    return Net(lasts, works, bounds)


def plain_verdict(left, name):
    """The verdict of a bound in a rest, as [21.4] tells it."""
    first, second, most = left.bounds[name]
    rows = closure(left.without(name))
    if rows is not None and rows[0][(first, second)] <= most:
        return "sure"
    return "holdable" if is_safe(left) else "luck" if has_times(left) else "lost"


def courses_behind(net, tick, seen):
    """The courses in which a beginning can have been seen."""
    done = {event: at for at, event in seen if event in net.deeds}
    found = []
    for course in each_course(net):
        times = dict(done)
        for end in net.ends:
            root, chain = net.road(end)
            if root == "dawn" or root in done:
                times[end] = done.get(root, 0) + sum(course[work] for work in chain)
        if seen_at(net, times, tick) == seen:
            found.append(course)
    return found


def times_of(net, done, course):
    times = dict(done)
    for end in net.ends:
        root, chain = net.road(end)
        if root == "dawn" or root in done:
            times[end] = done.get(root, 0) + sum(course[work] for work in chain)
    return times


def is_good(net, times):
    ticks = {"dawn": 0, **times}
    rows = [net.row(word)[1:] for word in net.told]
    return all(ticks[second] <= ticks[first] + most for first, second, most in rows)


def can_be_kept(net, tick, seen):
    """Whether some way keeps all behind a beginning, by trying all that a house can do from the next tick on."""
    done = {event: at for at, event in seen if event in net.deeds}

    def split(at, made, group):
        parts = {}
        for course in group:
            parts.setdefault(seen_at(net, times_of(net, made, course), at), []).append(course)
        return list(parts.values())

    def is_won(at, made, group):
        left = [deed for deed in net.deeds if deed not in made]
        if left == [] or at > net.horizon:
            return all(is_good(net, times_of(net, {**made, **{deed: at for deed in left}}, course)) for course in group)
        for many in range(len(left) + 1):
            for now in combinations(left, many):
                new = {**made, **{deed: at for deed in now}}
                if all(is_won(at + 1, new, part) for part in split(at + 1, new, group)):
                    return True
        return False

    return all(is_won(tick + 1, done, part) for part in split(tick + 1, done, courses_behind(net, tick, seen)))


def walk_on(net, left, table, tick, seen, course):
    """The beginnings behind each tick, and the times at last, if the walk of a table of a rest goes on in a course."""
    done = {event: at for at, event in seen if event in net.deeds}
    at, told = tick, [(tick, seen)]
    while at <= net.horizon + 25:
        at += 1
        now = seen_at(net, times_of(net, done, course), at)
        for deed in free_deeds(left, *table, at, now):
            done[deed] = at
        told.append((at, seen_at(net, times_of(net, done, course), at)))
    return told, times_of(net, done, course)


class BeginningTest(unittest.TestCase):
    def test_against_all_that_can_be_seen(self):
        checked = 0
        for seed, net in enumerate([NET, LATE, *small_nets(10)]):
            rng = random.Random(seed)
            for tick in (0, 1, 3, 5):
                right = all_beginnings(net, tick)
                self.assertTrue(all(is_beginning(net, tick, value) for value in right))
                told = set(right)
                for value in rng.sample(right, min(12, len(right))):
                    for other in self.near(rng, net, tick, value):
                        self.assertIs(is_beginning(net, tick, other), other in told, (net.works, tick, other))
                        checked += 1
        self.assertGreater(checked, 500)

    def near(self, rng, net, tick, value):
        """Tuples that differ from a beginning by one thing."""
        found = [value[:at] + value[at + 1:] for at in range(len(value))]
        for at, (when, event) in enumerate(value):
            for other in (when - 1, when + 1):
                if other >= 0:
                    found.append(tuple(sorted((*value[:at], (other, event), *value[at + 1:]))))
        seen = [event for _, event in value]
        for event in net.events:
            if event not in seen:
                found.append(tuple(sorted((*value, (rng.randint(0, tick + 1), event)))))
        return found

    def test_ahead_of_the_tick_0(self):
        for net in (NET, LATE, DAY, HARD):
            self.assertIs(is_beginning(net, None, ()), True)
            self.assertIs(is_beginning(net, 0, ()), True)
            for value in (((0, net.deeds[0]),), [], None, {}, 0):
                self.assertIs(is_beginning(net, None, value), False)
        short = Net({"e": 5, "a": 5}, {"w": ("dawn", "e", 1, 1, 0)})
        self.assertIs(is_beginning(short, 0, ()), True)
        self.assertIs(is_beginning(short, 1, ()), False)
        self.assertIs(is_beginning(short, 1, ((1, "e"),)), True)
        self.assertIs(is_beginning(short, 0, ((0, "a"),)), True)
        self.assertIs(is_beginning(short, 0, ((0, "e"),)), False)

    def test_each_thing_that_can_be_wrong(self):
        right = ((2, "in"), (3, "on"), (3, "off"))
        self.assertIs(is_beginning(NET, 3, tuple(sorted(right))), True)
        for tick, value in (
            (3, right), (3, ((2, "in"), (2, "on"))), (2, ((2, "in"), (3, "on"))), (3, ((1, "in"),)), (6, ((6, "in"),)), (5, ()),
            (6, ((3, "in"),)), (3, ((3, "on"),)), (3, ((2, "in"), (3, "in"))), (9, ((2, "in"), (6, "on"))), (3, ((2, "x"),)),
            (3, ((2, "dawn"),)), (3, [(2, "in")]), (3, ((2, "in", 1),)), (3, (("in", 2),)), (3, ((2, "fly"),)), (3, ((True, "off"),)),
            (3, ((2, "in"), (2, "in"))), (3, ((-1, "off"),)), (3, None), (3, ((2, None),)), (3, (2, "in")),
        ):
            self.assertIs(is_beginning(NET, tick, value), False, (tick, value))
        # Seen two ticks late: four ticks long at the most, it has to be seen by 6.
        self.assertIs(is_beginning(LATE, 5, ()), True)
        self.assertIs(is_beginning(LATE, 6, ()), False)
        for tick, right in ((3, False), (4, True), (6, True), (7, False)):
            self.assertIs(is_beginning(LATE, 9, ((tick, "e"),)), right)
        # A deed and an end at one tick, in the order of their names.
        self.assertIs(is_beginning(LATE, 6, ((4, "a"), (6, "e"), (6, "f"))), True)
        self.assertIs(is_beginning(LATE, 6, ((4, "a"), (6, "f"), (6, "e"))), False)

    def test_ticks(self):
        for tick in (-1, True, False, "1", (1,), 10 ** 34 + 1, 10 ** 59, [1]):
            for call in (lambda: is_beginning(NET, tick, None), lambda: rest(NET, tick, None), lambda: verdicts(NET, tick, None),
                         lambda: verdict(NET, tick, None, None), lambda: verdict_paper(NET, tick, None, None),
                         lambda: is_verdict_paper(NET, tick, None, None, None), lambda: Live(NET, tick=tick, seen=None)):
                with self.assertRaises(InvalidNumber) as caught:
                    call()
                self.assertTrue(is_same(caught.exception.given, tick))
        self.assertIs(is_beginning(Net({"a": 5}), 10 ** 34, ()), True)
        self.assertEqual(rest(Net({"a": 5}), 10 ** 34, ()).bounds, {"deed.0": ("a", "dawn", -(10 ** 34) - 1)})

    def test_judging_accepts_every_value(self):
        for value in odd_values():
            for held in (value, (value,), ((0, value),), ((value, "off"),)):
                for tick in (None, 0, 1):
                    self.assertIs(is_beginning(NET, tick, held), held == () and isinstance(held, tuple) or
                                  is_same(held, ((0, "off"),)) and tick is not None or is_same(held, ((1, "off"),)) and tick == 1, held)


class RestTest(unittest.TestCase):
    def test_bound_by_bound(self):
        for net in (NET, LATE, *small_nets(10)):
            self.assertEqual(rest(net, None, ()), net)
            for tick in (0, 2, 4):
                for seen in all_beginnings(net, tick)[:40]:
                    left = rest(net, tick, seen)
                    self.assertEqual(left, plain_rest(net, tick, seen))
                    self.assertEqual((left.events, list(left.works)), (net.events, list(net.works)))

    def test_by_hand(self):
        left = rest(LATE, 2, ((1, "a"),))
        self.assertEqual(left.works, {"v": ("a", "f", 1, 2, 1), "w": ("dawn", "e", 2, 4, 2)})
        self.assertEqual(left.lasts, {"a": 1, "e": 9, "f": 9})
        self.assertEqual(left.bounds, {**LATE.bounds, "deed.0": ("a", "dawn", -1)})
        left = rest(LATE, 4, ((3, "a"), (4, "e")))
        self.assertEqual(left.works, {"v": ("a", "f", 1, 2, 1), "w": ("dawn", "e", 2, 2, 2)})
        self.assertEqual(left.lasts, {"a": 3, "e": 2, "f": 9})
        left = rest(LATE, 5, ())
        self.assertEqual(left.works["w"], ("dawn", "e", 4, 4, 2))
        self.assertEqual(left.bounds["deed.0"], ("a", "dawn", -6))

    def test_a_last_tick_that_is_broken_stays(self):
        net = Net({"a": 2, "b": 9})
        self.assertEqual(rest(net, 5, ((4, "a"),)).lasts, {"a": 2, "b": 9})
        self.assertEqual(rest(net, 5, ((1, "a"),)).lasts, {"a": 1, "b": 9})

    def test_names_and_numbers_of_bounds(self):
        many = {f"b{index:03}": ("a", "dawn", 0) for index in range(201)}
        full = Net({"a": 5, "b": 5}, (), many)
        right = full.without("b200")
        self.assertEqual(len(rest(right, 0, ()).bounds), 202)
        named = right.with_bounds({"deed.x": ("a", "b", 5)})
        for call in (lambda net: rest(net, 0, ()), lambda net: verdicts(net, 0, ()), lambda net: verdict(net, 0, (), "b000"),
                     lambda net: verdict_paper(net, None, (), "b000"), lambda net: is_verdict_paper(net, 0, (), "b000", None),
                     lambda net: Live(net), lambda net: rest(net, None, ())):
            with self.assertRaises(TooMany) as caught:
                call(full)
            self.assertEqual(caught.exception.limit, 200)
            with self.assertRaises(InvalidOperation):
                call(named)
        with self.assertRaises(UnknownName):
            verdict(full, 0, (), "x")
        with self.assertRaises(InvalidOperation):
            verdict(named, 0, (), "x")
        self.assertEqual(rest(Net({"a": 5}, (), {"deeds": ("a", "dawn", 0), "deed": ("a", "dawn", 0)}), 0, ()).bounds["deed.0"][2], -1)
        self.assertEqual(live_day.MAX_LIVE, 200)

    def test_some_way_keeps_it_exactly_if_the_rest_has_a_table(self):
        seen = set()
        for seed, net in enumerate(small_nets(30, horizon=4)):
            rng = random.Random(seed)
            for tick in (0, 1, 2):
                told = all_beginnings(net, tick)
                for beginning in rng.sample(told, min(4, len(told))):
                    left = rest(net, tick, beginning)
                    safe = is_safe(left)
                    self.assertEqual(safe, can_be_kept(net, tick, beginning), (net.lasts, net.works, net.bounds, tick, beginning))
                    seen.add(safe)
                    if safe:
                        for course in courses_behind(net, tick, beginning)[:4]:
                            self.assertTrue(is_good(net, walk_on(net, left, closure(left), tick, beginning, course)[1]))
        self.assertEqual(seen, {True, False})

    def test_behind_a_walk_of_a_table_there_is_a_table(self):
        checked = 0
        for net in [DAY, NET.without("slot"), *small_nets(40)]:
            table = closure(net)
            if table is None:
                continue
            for course in list(each_course(net))[:6]:
                start = seen_at(net, times_of(net, {}, course), 0)
                done = free_deeds(net, *table, 0, start)
                first = seen_at(net, times_of(net, {deed: 0 for deed in done}, course), 0)
                for tick, seen in walk_on(net, net, table, 0, first, course)[0][:12]:
                    self.assertTrue(is_safe(rest(net, tick, seen)))
                    checked += 1
        self.assertGreater(checked, 100)


class VerdictTest(unittest.TestCase):
    def test_against_closures_and_times(self):
        kinds = {}
        for seed, net in enumerate([NET, LATE, DAY, HARD, *small_nets(30)]):
            rng = random.Random(seed)
            for tick in (None, 0, 1, 3):
                told = [()] if tick is None else all_beginnings(net, tick) if net.horizon < 30 else [()]
                for seen in rng.sample(told, min(5, len(told))):
                    left = plain_rest(net, tick, seen)
                    right = {name: plain_verdict(left, name) for name in sorted(net.bounds)}
                    self.assertEqual(verdicts(net, tick, seen), right)
                    self.assertTrue(are_keys_ascending(verdicts(net, tick, seen)))
                    for name in right:
                        self.assertEqual(verdict(net, tick, seen, name), right[name])
                        self.check_papers(net, tick, seen, name, left, right[name])
                        kinds[right[name]] = kinds.get(right[name], 0) + 1
                    if {"sure", "holdable"} & set(right.values()):
                        self.assertTrue(set(right.values()) <= {"sure", "holdable"})
        self.assertEqual(sorted(kinds), sorted(live_day.VERDICTS))
        self.assertTrue(all(many > 10 for many in kinds.values()), kinds)

    def check_papers(self, net, tick, seen, name, left, right):
        """Just one kind of paper is right, that of the verdict."""
        paper = verdict_paper(net, tick, seen, name)
        self.assertEqual(paper[0], right)
        self.assertIs(is_verdict_paper(net, tick, seen, name, paper), True)
        first, second, most = left.bounds[name]
        free = left.without(name)
        if right == "sure":
            _, table, lines = paper
            self.assertTrue(is_closed(free, table) and list_fault(free, lines) == ("end", None))
            row = lines[-1][0]
            self.assertTrue(row[:3] == ("bound", first, second) and row[3] <= most)
        if right == "holdable":
            self.assertTrue(is_closed(left, paper[1]) and is_closed(free, paper[2]) and paper[2][0][(first, second)] > most)
        if right == "luck":
            self.assertTrue(is_list(left, paper[1]) and are_times(left, paper[2]))
        if right == "lost":
            self.assertTrue(is_times_paper(left, ("ring", paper[1])))
        kind, *found = answer(left)
        other = answer(free)
        tables = [tuple(found)] if kind == "table" else []
        tables += [other[1:]] if other[0] == "table" else []
        lists = [found[0]] if kind == "list" else []
        lists += [other[1]] if other[0] == "list" else []
        times, told = times_paper(left)
        for one, two in product([*tables, *lists, told], repeat=2):
            for word in ("sure", "holdable", "luck"):
                if is_verdict_paper(net, tick, seen, name, (word, one, two)):
                    self.assertEqual(word, right)
        self.assertIs(is_verdict_paper(net, tick, seen, name, ("lost", told)), right == "lost" and times == "ring")

    def test_papers_with_one_thing_wrong(self):
        cases = [(NET, 3, ((2, "in"), (3, "on")), "turn"), (NET, 3, ((2, "in"), (3, "on")), "slot"), (NET, 1, (), "slot"),
                 (NET, 6, ((2, "in"), (3, "on")), "slot")]
        for (net, tick, seen, name), right in zip(cases, ("sure", "holdable", "luck", "lost")):
            paper = verdict_paper(net, tick, seen, name)
            self.assertEqual(paper[0], right)
            wrong = [list(paper), (*paper, 1), paper[:-1], (paper[0],), ()]
            wrong += [(word, *paper[1:]) for word in ("sure", "holdable", "luck", "lost", "", None) if word != right]
            if right == "lost":
                wrong += [(right, paper[1][:-1]), (right, list(paper[1])), (right, None), (right, paper[1] + (("begin", "off"),))]
            else:
                _, one, other = paper
                wrong += [(right, other, one), (right, one, None), (right, None, other), (right, one, ()), (right, (), other)]
            if right in ("sure", "holdable"):
                short = {pair: one[0][pair] for pair in list(one[0])[1:]}
                wrong += [(right, (short, one[1]), other), (right, ("table", *one), other), (right, list(one), other)]
            if right == "sure":
                wrong += [(right, one, other[:-1]), (right, one, list(other)), (right, closure(rest(net, tick, seen).with_bounds({"z": ("in", "off", 1)})), other)]
                row, why = other[-1]
                wrong.append((right, one, (*other[:-1], ((*row[:3], row[3] - 1), why))))
            if right == "luck":
                wrong += [(right, one[:-1], other), (right, one, {**other, "off": other["off"] + 90}), (right, one, {})]
            for value in wrong:
                self.assertIs(is_verdict_paper(net, tick, seen, name, value), False, value)

    def test_a_last_row_for_two_other_events(self):
        paper = verdict_paper(NET, 3, ((2, "in"), (3, "on")), "turn")
        _, table, lines = paper
        self.assertEqual(lines[-1][0][:3], ("bound", "in", "on"))
        line = (("bound", "off", "dawn", 0), ("begin", "off"))
        seen = ((2, "in"), (3, "on"))
        self.assertIs(is_verdict_paper(NET, 3, seen, "turn", ("sure", table, (*lines, line))), False)
        ahead = (line, *[(row, tuple(p if isinstance(p, str) else p + 1 for p in why)) for row, why in lines])
        self.assertIs(is_verdict_paper(NET, 3, seen, "turn", ("sure", table, ahead)), True)
        wide = (*lines[:-1], (("bound", "in", "on", 3), lines[-1][1]))
        self.assertIs(is_verdict_paper(NET, 3, seen, "turn", ("sure", table, wide)), True)
        wide = (*lines[:-1], (("bound", "in", "on", 4), lines[-1][1]))
        self.assertIs(is_verdict_paper(NET, 3, seen, "turn", ("sure", table, wide)), False)
        # A line by the bound itself is none without it.
        own = ((("bound", "in", "on", 3), ("bound", "turn")),)
        self.assertIs(is_verdict_paper(NET, 3, seen, "turn", ("sure", table, own)), False)

    def test_a_wait_for_a_work_that_is_called_like_the_event(self):
        works = {"fly": ("dawn", "in", 2, 5, 0), "on": ("in", "on", 1, 3, 0)}
        net = Net({"in": 9, "on": 12}, works, {"turn": ("in", "on", 3)})
        kind, table, lines = verdict_paper(net, None, (), "turn")
        self.assertEqual(kind, "sure")
        wait = ((("bound", "in", "on", 3), ("most", "on")), (("wait", "in", "on", 0), ("first", 0)))
        self.assertEqual(list_fault(net.without("turn"), wait), ("end", None))
        self.assertIs(is_verdict_paper(net, None, (), "turn", (kind, table, wait)), False)
        self.assertIs(is_verdict_paper(net, None, (), "turn", (kind, table, wait[:1])), True)

    def test_lists_that_end_below_0_and_tables_that_are_not_the_closure(self):
        left = rest(NET, 3, ((2, "in"), (3, "on")))
        bounds, waits = closure(left.with_bounds({"more": ("off", "dawn", -5)}))
        seen = ((2, "in"), (3, "on"))
        other = closure(left.without("slot"))
        self.assertIs(is_verdict_paper(NET, 3, seen, "slot", ("holdable", (bounds, waits), other)), True)
        # A closed table of the rest without it that keeps the bound by itself shows nothing.
        self.assertIs(is_verdict_paper(NET, 3, seen, "slot", ("holdable", (bounds, waits), (bounds, waits))), False)
        kind, lines, times = verdict_paper(NET, 1, (), "slot")
        self.assertEqual(kind, "luck")
        line = (("bound", "off", "dawn", 0), ("begin", "off"))
        ahead = (line, *[(row, tuple(p if isinstance(p, str) else p + 1 for p in why)) for row, why in lines])
        self.assertIs(is_verdict_paper(NET, 1, (), "slot", ("luck", ahead, {"in": 2, "on": 4, "off": 5})), True)
        self.assertIs(is_verdict_paper(NET, 1, (), "slot", ("luck", ahead, {"in": 2, "on": 4, "off": 1})), False)
        self.assertEqual(verdict_paper(HARD, None, (), "walk")[0], "lost")

    def test_judging_accepts_every_value(self):
        seen = ((2, "in"), (3, "on"))
        for value in odd_values():
            for held in (value, ("lost", value), ("sure", value, value), ("holdable", value, value), ("luck", value, value),
                         ("luck", LINES, value), (value, value, value), ("sure", closure(rest(NET, 3, seen).without("turn")), value)):
                self.assertIs(is_verdict_paper(NET, 3, seen, "turn", held), False)

    def test_names_of_bounds(self):
        for name in ("x", "fly", "in", "dawn", "deed.0", "", None, True, 5, ["slot"], ("slot",), {}, NET):
            for call in (verdict, verdict_paper, lambda *given: is_verdict_paper(*given, None)):
                with self.assertRaises(UnknownName) as caught:
                    call(NET, 1, (), name)
                self.assertTrue(is_same(caught.exception.wanted, name))
            with self.assertRaises(UnknownName):
                Live(NET, tick=1).verdict(name)
            with self.assertRaises(InvalidOperation):
                verdict(NET, 1, None, name)
            with self.assertRaises(InvalidNet):
                verdict(None, 1, None, name)

    def test_what_is_sure_stays_so_and_is_kept(self):
        sure = 0
        for seed, net in enumerate([NET, *small_nets(30)]):
            rng = random.Random(seed)
            for tick in (0, 2):
                told = all_beginnings(net, tick)
                for seen in rng.sample(told, min(4, len(told))):
                    left = rest(net, tick, seen)
                    now = verdicts(net, tick, seen)
                    table = closure(left)
                    for course in courses_behind(net, tick, seen)[:3]:
                        if table is not None:
                            for at, later in walk_on(net, left, table, tick, seen, course)[0][1:8]:
                                then = verdicts(net, at, later)
                                self.assertTrue(all(then[name] == "sure" for name in now if now[name] == "sure"))
                        for name in [name for name in now if now[name] == "sure"]:
                            free = left.without(name)
                            times = {"dawn": 0, **walk_on(net, free, closure(free), tick, seen, course)[1]}
                            first, second, most = net.bounds[name]
                            self.assertLessEqual(times[second], times[first] + most)
                            sure += 1
        self.assertGreater(sure, 30)

    def test_what_is_lost_stays_so(self):
        lost = 0
        for seed, net in enumerate(small_nets(40)):
            rng = random.Random(seed)
            for tick in (0, 1, 2):
                told = all_beginnings(net, tick)
                for seen in rng.sample(told, min(3, len(told))):
                    if net.bounds and set(verdicts(net, tick, seen).values()) == {"lost"}:
                        for later in all_beginnings(net, tick + 1):
                            if tuple(pair for pair in later if pair[0] <= tick) == seen:
                                self.assertEqual(set(verdicts(net, tick + 1, later).values()), {"lost"})
                                lost += 1
                    else:
                        self.assertFalse(Live(net, tick=tick, seen=seen).broken)
        self.assertGreater(lost, 30)

    def test_what_is_not_true(self):
        # What is holdable does not stay so while nothing is done and nothing is seen.
        net = Net({"a": 9}, (), {"by": ("dawn", "a", 3)})
        self.assertEqual([verdict(net, tick, (), "by") for tick in (None, 0, 2, 3)], ["holdable", "holdable", "holdable", "lost"])
        # Each walk keeps it, and it is not sure; a bound that is sure is not kept by every way.
        net = Net({"a": 9, "e": 9}, {"w": ("dawn", "e", 1, 2, 0)}, {"on": ("a", "e", 0), "far": ("e", "a", 8)})
        self.assertEqual(verdict(net, None, (), "far"), "sure")


class LiveTest(unittest.TestCase):
    def test_properties_and_texts(self):
        live = Live(NET)
        self.assertEqual((live.net, live.tick, live.seen, live.rest, live.broken, live.under_way), (NET, None, (), NET, (), ("fly",)))
        self.assertEqual(str(live), "day ahead: 0 of 3 seen")
        live = live.later(0).later(4, "in")
        self.assertEqual((live.tick, live.seen, live.under_way, str(live)), (4, ((4, "in"),), ("load",), "day at 4: 1 of 3 seen"))
        self.assertEqual(live.rest, rest(NET, 4, ((4, "in"),)))
        live = live.later(5, "on", "off")
        self.assertEqual((live.seen, live.under_way), (((4, "in"), (5, "off"), (5, "on")), ()))
        self.assertEqual(live.later(9).seen, live.seen)
        with self.assertRaises(TypeError):
            iter(live)

    def test_broken(self):
        net = Net({"a": 2, "b": 9, "e": 3}, {"w": ("dawn", "e", 1, 4, 1)},
                  {"ab": ("a", "b", 1), "ba": ("b", "a", 0), "zz": ("dawn", "a", 1), "be": ("b", "e", -2)})
        live = Live(net, tick=5, seen=((3, "a"), (5, "b"), (5, "e")))
        self.assertEqual(live.broken, (("bound", "ab"), ("bound", "be"), ("bound", "zz"), ("last", "a"), ("last", "e")))
        self.assertEqual(Live(net, tick=3, seen=((3, "a"),)).broken, (("bound", "zz"), ("last", "a")))
        self.assertEqual(live.verdicts(), {name: "lost" for name in net.bounds})
        for small in small_nets(10):
            for seen in all_beginnings(small, 3)[:20]:
                ticks = known_in(small, seen)
                rows = {word: small.row(word)[1:] for word in small.told}
                told = sorted(word for word, (p, q, x) in rows.items() if p in ticks and q in ticks and ticks[q] > ticks[p] + x)
                live = Live(small, tick=3, seen=seen)
                self.assertEqual(live.broken, tuple(told))
                works = small.works
                self.assertEqual(live.under_way, tuple(w for w in sorted(works) if works[w][0] in ticks and works[w][1] not in ticks))
                if told and small.bounds:
                    self.assertEqual(set(live.verdicts().values()), {"lost"})

    def test_verdicts_and_answers(self):
        for net in (NET, DAY, HARD, LATE, CHAIN):
            live = Live(net, tick=1)
            self.assertEqual(live.verdicts(), verdicts(net, 1, ()))
            self.assertEqual({name: live.verdict(name) for name in net.bounds}, live.verdicts())
            self.assertTrue(is_answer(live.rest, live.answer()))

    def test_later(self):
        live = Live(NET, tick=3, seen=((3, "in"),))
        for tick in (3, 2, 0, -1, True, None, "4", (4,), [4], 10 ** 34 + 1, 10 ** 59):
            with self.assertRaises(InvalidNumber) as caught:
                live.later(tick, "x")
            self.assertTrue(is_same(caught.exception.given, tick))
        for events in (("x",), ("in",), ("dawn",), ("on", "on"), (None,), (5,), (True,), (["on"],), (("on",),), ("on", None), ({},), (NET,)):
            with self.assertRaises(InvalidOperation, msg=events):
                live.later(5, *events)
        with self.assertRaises(InvalidOperation):
            live.later(7)
        with self.assertRaises(InvalidOperation):
            live.later(7, "on")
        self.assertEqual(live.later(6, "on").seen, ((3, "in"), (6, "on")))
        self.assertEqual(live.later(4, "off", "on"), live.later(4, "on", "off"))
        self.assertEqual(live.seen, ((3, "in"),))
        with self.assertRaises(InvalidOperation):
            Live(NET).later(5)
        self.assertEqual(Live(NET).later(4).tick, 4)

    def test_on(self):
        live = Live(NET, tick=3, seen=((3, "in"),))
        self.assertEqual(live.on(NET.without("slot")), Live(NET.without("slot"), tick=3, seen=((3, "in"),)))
        for net in (None, 5, live, "x"):
            with self.assertRaises(InvalidNet):
                live.on(net)
        with self.assertRaises(InvalidOperation):
            live.on(NET.with_lengths({"fly": (4, 5)}))
        with self.assertRaises(InvalidOperation):
            live.on(NET.with_bounds({"deed.1": ("in", "on", 9)}))
        with self.assertRaises(TooMany):
            live.on(NET.with_bounds({f"b{index}": ("in", "on", 9) for index in range(200)}))

    def test_equality(self):
        live = Live(NET, tick=3, seen=((3, "in"),))
        self.assertTrue(live == Live(NET).later(3, "in"))
        self.assertFalse(live != Live(NET).later(3, "in"))
        for other in (Live(NET, tick=4, seen=((3, "in"),)), Live(NET, tick=3, seen=((2, "in"),)), Live(NET.without("slot"), tick=3, seen=((3, "in"),)),
                      Live(NET, tick=3), NET, *odd_values()):
            self.assertFalse(live == other)
            self.assertTrue(live != other)
        self.assertFalse(Live(NET) == Live(NET, tick=0))

    def test_errors_in_sequence(self):
        with self.assertRaises(InvalidNet):
            Live(None, tick=-1, seen=None)
        with self.assertRaises(InvalidNumber):
            Live(NET, tick=-1, seen=None)
        with self.assertRaises(InvalidOperation):
            Live(NET, tick=1, seen=None)
        with self.assertRaises(InvalidOperation):
            Live(NET, seen=((2, "in"),))


if __name__ == "__main__":
    unittest.main()
