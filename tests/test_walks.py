"""Walks of closed tables: [8.1] to [8.4], [0.18], stage 8."""

import random
import unittest
from itertools import combinations

from dawnway.errors import InvalidCourse, InvalidNet, InvalidNumber, InvalidOperation, InvalidTable
from dawnway.net.nets import Net
from dawnway.play.plays import each_course, play
from dawnway.rule.tables import closure, is_closed
from dawnway.walk.walks import Walk, free_deeds, walk_way, walked
from tests.helpers import (
    BARE, CHAIN, DAY, HARD, LATE, are_keys_ascending, crossed_net, is_same, odd_values, random_net, shown,
)

FAR = 10 ** 32
BOUNDS, WAITS = closure(DAY)
# The taxi begins by the end of the flight; the storm is seen two ticks late.
FULL = CHAIN.with_bounds({"lead": ("call", "gate", -1), "meet": ("gate", "call", 9), "wait": ("call", "clear", -2)})


def known_in(net, seen):
    """When dawn and what is seen came."""
    looks = {net.works[work][1]: net.works[work][4] for work in net.works}
    return {"dawn": 0, **{event: tick - looks.get(event, 0) for tick, event in seen}}


def is_free(net, bounds, waits, tick, seen, deed, beside):
    """Whether a deed is free beside a set of deeds, word by word as [8.1] tells it."""
    known = known_in(net, seen)

    def must_have_come(event, most):
        work = net.work_of(event)
        return work is not None and net.works[work][0] in known and (
            tick >= known[net.works[work][0]] + net.works[work][3] - most)

    for (first, second), most in bounds.items():
        if first == deed and most <= -1:
            if not (second in known and known[second] <= tick + most) and not must_have_come(second, most):
                return False
        if first == deed and most == 0:
            if second not in known and second not in beside and not must_have_come(second, 0):
                return False
    for (event, work), wait in waits.items():
        begin, end = net.works[work][:2]
        if event == deed and end not in known:
            if not (tick >= known[begin] + wait if begin in known else wait <= 0):
                return False
    return True


def greatest_free(net, bounds, waits, tick, seen):
    """The greatest lot of deeds all of which are free beside it, by trying all lots."""
    left = [deed for deed in net.deeds if deed not in [event for _, event in seen]]
    lots = [set(lot) for many in range(len(left) + 1) for lot in combinations(left, many)]
    right = [lot for lot in lots if all(is_free(net, bounds, waits, tick, seen, deed, lot) for deed in lot)]
    greatest = max(right, key=len)
    assert all(lot <= greatest for lot in right)
    return tuple(sorted(greatest))


def tables_of(net, count=3):
    """The closure of a net, and other closed tables of it: closures of nets with more bounds and earlier last ticks."""
    found = [closure(net)] if closure(net) is not None else []
    for seed in range(count * 4):
        rng = random.Random(seed)
        names = ["dawn", *net.events]
        more = {}
        for index in range(2):
            first, second = rng.sample(names, 2)
            more[f"more{index}"] = (first, second, rng.randint(-2, 3))
        event = rng.choice(net.events)
        table = closure(net.with_bounds(more).with_lasts({event: max(0, net.lasts[event] - rng.randint(0, 2))}))
        if table is not None and table not in found and len(found) <= count:
            found.append(table)
    return found


def some_nets(count=60):
    """Small safe nets of several sorts."""
    nets = [DAY.with_lengths({"fly": (10, 14)}), FULL, BARE, LATE.with_looks({"w": 2})]
    for seed in range(count):
        nets.append(random_net(seed, events=3 + seed % 3, works=1 + seed % 2, bounds=1 + seed % 4))
        nets.append(crossed_net(seed, works=2 + seed % 2, bounds=1 + seed % 3))
    return [net for net in nets if closure(net) is not None]


def random_seen(net, rng, tick, count=None):
    """What is seen up to a tick, such as no walk comes to."""
    events = rng.sample(list(net.events), rng.randint(0, len(net)) if count is None else count)
    return tuple(sorted((rng.randint(0, tick), event) for event in events))


def courses_of(net):
    """All courses of a small net, those of least and greatest lengths of others."""
    works = net.works
    many = 1
    for _, _, least, most, _ in works.values():
        many *= most - least + 1
    if many <= 60:
        return list(each_course(net))
    return [{name: works[name][2 + (number >> index) % 2] for index, name in enumerate(works)}
            for number in range(2 ** min(len(works), 5))]


def rows_of(bounds, waits):
    return [("bound", *pair, bounds[pair]) for pair in bounds] + [("wait", *pair, waits[pair]) for pair in waits]


class FreeDeedsTest(unittest.TestCase):
    def test_greatest_lot_of_all(self):
        sizes = {}
        for seed, net in enumerate(some_nets()):
            rng = random.Random(seed)
            for bounds, waits in tables_of(net):
                for _ in range(6):
                    tick = rng.randint(0, net.horizon + 3)
                    seen = random_seen(net, rng, tick)
                    told = free_deeds(net, bounds, waits, tick, seen)
                    self.assertEqual(told, greatest_free(net, bounds, waits, tick, seen))
                    self.assertEqual(told, walk_way(net, bounds, waits)(tick, seen)[0])
                    sizes[len(told)] = sizes.get(len(told), 0) + 1
        self.assertTrue(all(sizes[many] > 30 for many in (0, 1, 2)))

    def ask(self, net, tick, *seen):
        return free_deeds(net, *closure(net), tick, tuple(sorted(seen)))

    def check_from(self, net, tick, deed, *seen):
        """From this tick on the deed is free, and not one tick ahead of it."""
        self.assertNotIn(deed, self.ask(net, tick - 1, *seen))
        self.assertIn(deed, self.ask(net, tick, *seen))

    def test_a_bound_below_0_to_a_deed(self):
        net = Net({"a": 30, "b": 30}, (), {"x": ("b", "a", -4), "wide": ("a", "b", 30)})
        self.assertEqual(self.ask(net, 29), ("a",))
        self.check_from(net, 9, "b", (5, "a"))
        self.check_from(net.with_bounds({"x": ("b", "a", -1)}), 6, "b", (5, "a"))
        self.assertIn("b", self.ask(net.with_bounds({"x": ("b", "a", 0)}), 5, (5, "a")))

    def test_a_bound_of_0_to_a_deed(self):
        net = Net({"a": 30, "b": 30}, (), {"x": ("b", "a", 0)})
        self.assertEqual(self.ask(net, 0), ("a", "b"))
        self.assertEqual(self.ask(net.with_bounds({"y": ("a", "dawn", -3)}), 2), ())
        self.assertEqual(self.ask(net.with_bounds({"y": ("a", "dawn", -3)}), 3), ("a", "b"))
        self.assertEqual(self.ask(net, 4, (4, "a")), ("b",))
        self.assertEqual(self.ask(net, 4, (4, "b")), ("a",))

    def test_bounds_above_0_ask_nothing(self):
        net = Net({"a": 30, "b": 30}, (), {"x": ("b", "a", 1)})
        self.assertEqual(self.ask(net, 0), ("a", "b"))

    def test_a_bound_to_dawn(self):
        net = Net({"a": 30}, (), {"x": ("a", "dawn", -7)})
        self.check_from(net, 7, "a")

    def test_a_bound_to_an_end_that_is_seen(self):
        net = Net({"a": 60, "e": 40}, {"w": ("dawn", "e", 5, 30, 0)}, {"x": ("a", "e", -6)})
        self.check_from(net, 18, "a", (12, "e"))
        self.check_from(net.with_looks({"w": 2}), 16, "a", (12, "e"))
        self.assertEqual(self.ask(net.with_looks({"w": 6}), 12, (12, "e")), ("a",))
        self.assertEqual(self.ask(net.with_looks({"w": 5}), 12, (12, "e")), ())
        # An end that is seen nine ticks late is not awaited: the table has the deed come ahead of that.
        self.check_from(net.with_looks({"w": 9}), 14, "a", (12, "e"))

    def test_a_bound_to_an_end_that_must_have_come(self):
        net = Net({"a": 60, "e": 40}, {"w": ("dawn", "e", 5, 30, 0)}, {"x": ("a", "e", -6)})
        self.check_from(net, 36, "a")
        self.check_from(net.with_bounds({"x": ("a", "e", 0)}), 30, "a")
        self.check_from(net.with_bounds({"x": ("a", "e", -1)}), 31, "a")
        begun = Net({"a": 90, "d": 40, "e": 70}, {"w": ("d", "e", 5, 30, 4)}, {"x": ("a", "e", -6), "y": ("a", "d", 50)})
        self.check_from(begun, 43, "a", (7, "d"))
        self.assertNotIn("a", self.ask(begun, 80))

    def test_either_the_seen_end_or_its_greatest_length_is_enough(self):
        # No course has the end at 40: but the words let either be enough.
        net = Net({"a": 60, "e": 40}, {"w": ("dawn", "e", 5, 30, 0)}, {"x": ("a", "e", -6)})
        self.assertEqual(self.ask(net, 40, (40, "e")), ("a",))
        self.assertEqual(self.ask(net, 35, (35, "e")), ())
        begun = Net({"a": 90, "d": 40, "e": 70}, {"w": ("d", "e", 5, 30, 4)}, {"x": ("a", "e", -6), "y": ("a", "d", 50)})
        self.assertEqual(self.ask(begun, 20, (3, "d"), (16, "e")), ("a",))
        self.assertEqual(self.ask(begun, 17, (3, "d"), (16, "e")), ())
        self.assertEqual(self.ask(begun, 39, (3, "d"), (38, "e")), ("a",))
        self.assertEqual(self.ask(begun, 38, (3, "d"), (38, "e")), ())

    def test_an_end_seen_ahead_of_its_look(self):
        net = Net({"a": 60, "e": 40}, {"w": ("dawn", "e", 1, 30, 9)}, {"x": ("a", "e", -6)})
        self.assertEqual(self.ask(net, 10, (5, "e")), ("a",))
        self.assertEqual(self.ask(net.with_looks({"w": 0}), 10, (5, "e")), ())

    def test_waits_of_0_and_below(self):
        for wait in (-5, -1, 0):
            net = Net({"a": 60, "d": 20, "e": 60}, {"w": ("d", "e", 5, 30, 2)}, {"x": ("a", "e", 30 - wait)})
            bounds, waits = closure(net)
            self.assertEqual(waits[("a", "w")], wait)
            self.assertEqual(free_deeds(net, bounds, waits, 0, ()), ("a", "d"))
            self.assertEqual(free_deeds(net, bounds, waits, 3, ((3, "d"),)), ("a",))
        # The begin is seen, as in no walk, behind the tick from which the wait counts.
        self.assertEqual(free_deeds(net, bounds, waits, 0, ((0, "d"),)), ("a",))

    def test_waits_above_0(self):
        net = Net({"a": 60, "d": 20, "e": 60}, {"w": ("d", "e", 5, 30, 2)}, {"x": ("a", "e", 27)})
        bounds, waits = closure(net)
        self.assertEqual((waits[("a", "w")], bounds[("a", "d")]), (3, -3))
        self.check_from(net, 10, "a", (7, "d"))
        self.assertEqual(self.ask(net, 50), ("d",))
        # A wait alone, whatever the bounds of the table are: the end is seen, or the wait is over.
        soon = Net({"a": 60, "e": 60}, {"w": ("dawn", "e", 5, 30, 2)}, {"x": ("a", "e", 10)})
        bounds, waits = closure(soon)
        self.assertEqual((waits[("a", "w")], bounds[("a", "dawn")]), (20, -7))
        self.check_from(soon, 20, "a")
        self.assertEqual(self.ask(soon, 12, (12, "e")), ("a",))
        self.assertEqual(self.ask(soon, 7, (7, "e")), ("a",))
        self.assertEqual(self.ask(soon, 6, (6, "e")), ())

    def test_waits_whose_begin_must_have_come_and_is_not_known(self):
        net = Net({"a": 60, "m": 9, "e": 60}, {"c": ("dawn", "m", 1, 2, 0), "d": ("m", "e", 1, 5, 0)}, {"x": ("a", "e", 4)})
        bounds, waits = closure(net)
        self.assertEqual((waits[("a", "d")], bounds[("a", "m")]), (1, -1))
        self.assertEqual(self.ask(net, 10), ())
        self.assertEqual(self.ask(net, 10, (10, "m")), ())
        self.check_from(net, 3, "a", (2, "m"))
        self.check_from(net.with_bounds({"x": ("a", "e", 5)}), 2, "a")

    def test_bounds_of_0(self):
        for other in ("d", "e", "dawn"):
            net = Net({"a": 60, "d": 20, "e": 60}, {"w": ("d", "e", 5, 30, 2)}, {"x": ("a", other, 0), "y": ("d", "dawn", -2)})
            bounds, waits = closure(net)
            self.assertLessEqual(bounds[("a", other)], 0)
            for tick in range(40):
                for seen in ((), ((2, "d"),), ((5, "e"),), ((3, "d"), (10, "e")), ((9, "a"),)):
                    if all(at <= tick for at, _ in seen):
                        self.assertEqual(self.ask(net, tick, *seen), greatest_free(net, bounds, waits, tick, seen))

    def test_deeds_that_come_only_together(self):
        ring = {"x": ("a", "b", 0), "y": ("b", "c", 0), "z": ("c", "a", 0)}
        net = Net({"a": 30, "b": 30, "c": 30, "e": 30}, {"w": ("dawn", "e", 2, 9, 1)}, {**ring, "q": ("b", "e", -3)})
        self.assertEqual(self.ask(net, 11), ())
        self.assertEqual(self.ask(net, 12), ("a", "b", "c"))
        self.assertEqual(self.ask(net, 7, (5, "e")), ("a", "b", "c"))
        self.assertEqual(self.ask(net, 6, (5, "e")), ())
        # One of them, seen alone as in no walk, leaves the others free only if they were.
        self.assertEqual(self.ask(net, 6, (5, "e"), (6, "a")), ())
        self.assertEqual(self.ask(net, 6, (5, "e"), (6, "b")), ())
        self.assertEqual(self.ask(net, 7, (5, "e"), (6, "b")), ("a", "c"))

    def test_what_has_come_is_not_free(self):
        self.assertEqual(free_deeds(DAY, BOUNDS, WAITS, 60, ((17, "board"), (20, "land"), (30, "off"))), ())
        self.assertEqual(free_deeds(DAY, BOUNDS, WAITS, 60, ((17, "board"), (20, "land"))), ("off",))

    def test_late_ticks(self):
        last = 10 ** 34
        self.assertEqual(free_deeds(DAY, BOUNDS, WAITS, last, ()), ("board",))
        self.assertEqual(free_deeds(DAY, BOUNDS, WAITS, last, ((last, "land"),)), ("board",))
        self.assertEqual(free_deeds(DAY, BOUNDS, WAITS, last, ((last - 9, "board"),)), ())
        self.assertEqual(free_deeds(DAY, BOUNDS, WAITS, last, ((last - 10, "board"),)), ("off",))

    def test_keys_in_another_sequence(self):
        turned = dict(reversed(BOUNDS.items())), dict(reversed(WAITS.items()))
        self.assertEqual(free_deeds(DAY, *turned, 17, ((12, "land"),)), ("board",))

    def test_errors(self):
        for value in odd_values():
            if not isinstance(value, Net):
                for ask in (lambda: free_deeds(value, None, None, None, None), lambda: walk_way(value, None, None),
                            lambda: walked(value, None, None, None), lambda: Walk(value, None, None)):
                    with self.assertRaises(InvalidNet):
                        ask()
            for bounds, waits in ((value, WAITS), (BOUNDS, value), (value, value)):
                for ask in (lambda: free_deeds(DAY, bounds, waits, None, None), lambda: walk_way(DAY, bounds, waits),
                            lambda: walked(DAY, bounds, waits, None), lambda: Walk(DAY, bounds, waits)):
                    with self.assertRaises(InvalidTable):
                        ask()
        loose = {**BOUNDS, ("board", "land"): -4}
        for net, bounds, waits in ((DAY, loose, WAITS), (HARD, BOUNDS, WAITS), (DAY, BOUNDS, {**WAITS, ("board", "fly"): 34})):
            with self.assertRaises(InvalidTable):
                free_deeds(net, bounds, waits, None, None)
            with self.assertRaises(InvalidTable):
                walked(net, bounds, waits, None)
        for value in (-1, True, None, "1", 10 ** 34 + 1, (1,), [1], 10 ** 59):
            with self.assertRaises(InvalidNumber) as caught:
                free_deeds(DAY, BOUNDS, WAITS, value, None)
            self.assertTrue(is_same(caught.exception.given, value))
        for value in wrong_seen():
            with self.assertRaises(InvalidOperation, msg=value):
                free_deeds(DAY, BOUNDS, WAITS, 9, value)
        for value in (None, {}, {"fly": 9}, (), {"fly": True}):
            with self.assertRaises(InvalidCourse):
                walked(DAY, BOUNDS, WAITS, value)


def wrong_seen():
    """What is nothing that is seen up to the tick 9 in DAY."""
    return [
        None, [], {}, "seen", 5, ((10, "land"),), ((5, "land"), (4, "off")), ((4, "land"), (5, "land")), ((4, "fly"),),
        ((4, "dawn"),), ((4, "x"),), ((True, "land"),), ((-1, "land"),), (("land", 4),), ((4, "land", 1),), ([4, "land"],),
        ((4, ["land"]),), (None,), ((4, "land"), None), ((4, "land"), (4, "land")), ((10 ** 40, "land"),), ((4, None),),
        [(4, "land")], ((5, "off"), (5, "land")), ((1, "dawn"), (4, "land")),
    ]


class WayTest(unittest.TestCase):
    def test_again_is_the_next_tick_at_which_a_deed_becomes_free(self):
        kinds = {}
        for seed, net in enumerate(some_nets(40)):
            rng = random.Random(seed)
            for bounds, waits in tables_of(net, 2):
                way = walk_way(net, bounds, waits)
                for _ in range(5):
                    tick = rng.randint(0, net.horizon + 3)
                    seen = random_seen(net, rng, tick)
                    deeds, again = way(tick, seen)
                    then = tuple(sorted((*seen, *((tick, deed) for deed in deeds))))
                    self.assertEqual(greatest_free(net, bounds, waits, tick, then), ())
                    last = tick + 3 * net.horizon + 60
                    ticks = [at for at in range(tick + 1, last) if greatest_free(net, bounds, waits, at, then) != ()]
                    self.assertEqual(again, min(ticks, default=None))
                    kinds[again is None] = kinds.get(again is None, 0) + 1
        self.assertTrue(kinds[True] > 30 and kinds[False] > 30)

    def test_again_far_away(self):
        net = Net({"a": 10 ** 30}, (), {"x": ("a", "dawn", -(10 ** 30))})
        self.assertEqual(walk_way(net, *closure(net))(0, ()), ((), 10 ** 30))
        net = Net({"a": 60, "b": 60}, (), {"x": ("b", "a", -5)})
        way = walk_way(net, *closure(net))
        self.assertEqual(way(7, ((7, "a"),)), ((), 12))
        self.assertEqual(way(FAR - 5, ((FAR - 5, "a"),)), ((), FAR))
        self.assertEqual(way(FAR - 4, ((FAR - 4, "a"),)), ((), None))
        self.assertEqual(way(10 ** 34, ((10 ** 34 - 4, "a"),)), ((), None))
        self.assertEqual(way(10 ** 34, ((10 ** 34 - 5, "a"),)), (("b",), None))
        self.assertEqual(way(10 ** 34, ()), (("a",), None))

    def test_what_it_tells_in_a_play(self):
        way = walk_way(DAY, BOUNDS, WAITS)
        self.assertEqual(way(0, ()), ((), 35))
        self.assertEqual(way(12, ((12, "land"),)), ((), 17))
        self.assertEqual(way(17, ((12, "land"),)), (("board",), 27))
        self.assertEqual(way(27, ((12, "land"), (17, "board"))), (("off",), None))
        self.assertEqual(way(35, ()), (("board",), 45))

    def test_it_refuses_all_else(self):
        way = walk_way(DAY, BOUNDS, WAITS)
        for value in (-1, True, None, "1", 10 ** 34 + 1, (1,), [1], 10 ** 59, DAY):
            with self.assertRaises(InvalidOperation):
                way(value, ())
            with self.assertRaises(InvalidOperation):
                way(value, None)
        for value in wrong_seen():
            with self.assertRaises(InvalidOperation, msg=value):
                way(9, value)
        self.assertEqual(way(9, ((9, "land"),)), ((), 15))

    def test_it_is_asked_when_something_can_become_free(self):
        way = walk_way(DAY, BOUNDS, WAITS)
        for length, ticks in ((17, [0, 17, 22, 32]), (30, [0, 30, 35, 45])):
            asked = []

            def noted(tick, seen):
                asked.append(tick)
                return way(tick, seen)

            play(DAY, noted, {"fly": length})
            self.assertEqual(asked, ticks)

    def test_it_shares_nothing(self):
        bounds, waits = dict(BOUNDS), dict(WAITS)
        way, walk = walk_way(DAY, bounds, waits), Walk(DAY, bounds, waits)
        bounds.clear()
        waits.clear()
        self.assertEqual(way(0, ()), ((), 35))
        self.assertEqual(walk.next(), (35, ("board",)))
        self.assertTrue(walk == Walk(DAY, BOUNDS, WAITS))


class WalkedTest(unittest.TestCase):
    def test_walks_break_nothing(self):
        plays = 0
        for net in some_nets():
            for bounds, waits in tables_of(net):
                for course in courses_of(net):
                    told = walked(net, bounds, waits, course)
                    plays += 1
                    self.assertEqual((told.broken, told.is_whole), ((), True))
                    self.assertEqual(told, play(net, walk_way(net, bounds, waits), course))
                    for row in rows_of(bounds, waits):
                        if row[0] == "bound":
                            self.assertIs(told.is_broken(row), False)
                    for event, tick in told.times.items():
                        self.assertTrue(-bounds[(event, "dawn")] <= tick <= bounds[("dawn", event)])
        self.assertGreater(plays, 500)

    def test_greater_nets(self):
        walked_nets = 0
        for seed in range(60):
            net = crossed_net(seed, works=5, bounds=4, horizon=60, longest=9, look=3)
            for bounds, waits in tables_of(net, 2):
                walked_nets += 1
                for course in courses_of(net):
                    self.assertEqual(walked(net, bounds, waits, course).broken, ())
        self.assertGreater(walked_nets, 20)

    def test_no_deed_is_later_in_the_walk_of_the_closure(self):
        later = 0
        for net in some_nets():
            first, *others = tables_of(net)
            for course in courses_of(net):
                soon = walked(net, *first, course).times
                for table in others:
                    late = walked(net, *table, course).times
                    self.assertTrue(all(soon[event] <= late[event] for event in net.events))
                    later += soon != late
        self.assertGreater(later, 100)

    def test_each_deed_comes_as_early_as_the_table_lets_it(self):
        for net in some_nets(30):
            for bounds, waits in tables_of(net, 1):
                for course in courses_of(net):
                    told = walked(net, bounds, waits, course)
                    for deed in net.deeds:
                        for tick in range(told.times[deed]):
                            seen = told.seen_to(tick)
                            self.assertNotIn(deed, greatest_free(net, bounds, waits, tick, seen))

    def test_no_two_alike_looks_are_walked_apart(self):
        net = LATE.with_looks({"w": 2})
        bounds, waits = closure(net)
        told = [walked(net, bounds, waits, course).times for course in each_course(net)]
        self.assertEqual([times["a"] - times["e"] for times in told], [2, 2, 1, 0])

    def test_keys_ascend(self):
        told = walked(DAY, BOUNDS, WAITS, {"fly": 17})
        self.assertTrue(are_keys_ascending([told.times, told.course]))


class WalkTest(unittest.TestCase):
    def test_from_end_to_end(self):
        steps = 0
        for seed, net in enumerate(some_nets(40)):
            for table in tables_of(net, 1):
                for number, course in enumerate(courses_of(net)[:12]):
                    rng = random.Random(seed * 100 + number)
                    told = walked(net, *table, course)
                    last = net.horizon + 30
                    coming = {tick: [] for tick in range(last) if rng.random() < number / 12}
                    for tick, event in told.seen_to(last - 1):
                        if event in net.ends:
                            coming.setdefault(tick, []).append(event)
                    walk = Walk(net, *table)
                    for tick in sorted(coming):
                        before, ends = shown(walk), tuple(coming[tick])
                        then = walk.next()
                        if then is not None and then[0] < tick:
                            self.assertEqual({told.times[deed] for deed in then[1]}, {then[0]})
                        self.assertEqual(shown(walk), before)
                        walk = walk.at(tick, *rng.sample(ends, len(ends)))
                        self.assertEqual((walk.tick, walk.seen), (tick, told.seen_to(tick)))
                        known = known_in(net, walk.seen)
                        self.assertEqual(walk.under_way, tuple(sorted(
                            work for work, (begin, end, *_) in net.works.items() if begin in known and end not in known)))
                        steps += 1
                    self.assertEqual(walk.at(last).seen, told.seen_to(last))
        self.assertGreater(steps, 1000)

    def test_properties(self):
        walk = Walk(FULL, *closure(FULL))
        self.assertTrue(walk.net == FULL)
        self.assertEqual((walk.tick, walk.seen, len(walk), str(walk)), (None, (), 0, "walk at dawn"))
        self.assertEqual(walk.under_way, ("fly", "storm"))
        walk = walk.at(4, "land")
        self.assertEqual((walk.tick, walk.seen, walk.under_way), (4, ((4, "land"),), ("storm", "taxi")))
        self.assertEqual(str(walk), "walk behind tick 4, 1 seen")
        walk = walk.at(7, "gate", "clear")
        self.assertEqual((len(walk), walk.under_way), (4, ("tow",)))
        self.assertEqual(walk.seen, ((4, "land"), (7, "call"), (7, "clear"), (7, "gate")))

    def test_ends_in_any_order(self):
        walk = Walk(FULL, *closure(FULL)).at(4, "land")
        self.assertTrue(walk.at(7, "gate", "clear") == walk.at(7, "clear", "gate"))

    def test_stops_at_which_nothing_is_seen(self):
        walk = Walk(DAY, BOUNDS, WAITS)
        for tick in (0, 3, 9):
            walk = walk.at(tick)
            self.assertEqual((walk.tick, walk.seen, walk.next(), walk.under_way), (tick, (), (35, ("board",)), ("fly",)))
        walk = walk.at(12, "land")
        self.assertEqual(walk.at(16).next(), (17, ("board",)))
        self.assertEqual(walk.at(17).next(), (27, ("off",)))
        self.assertEqual(walk.at(18).seen, ((12, "land"), (17, "board")))
        self.assertEqual(walk.at(99).seen, ((12, "land"), (17, "board"), (27, "off")))
        self.assertIsNone(walk.at(99).next())
        self.assertEqual(str(walk.at(99)), "walk behind tick 99, 3 seen")

    def test_deeds_at_dawn(self):
        net = Net({"a": 5, "b": 5, "e": 5}, {"w": ("a", "e", 1, 2, 0)}, {"x": ("b", "a", -1)})
        walk = Walk(net, *closure(net))
        self.assertEqual((walk.next(), walk.under_way), ((0, ("a",)), ()))
        walk = walk.at(0)
        self.assertEqual((walk.seen, walk.next(), walk.under_way), (((0, "a"),), (1, ("b",)), ("w",)))
        self.assertEqual(Walk(net, *closure(net)).at(1, "e").seen, ((0, "a"), (1, "b"), (1, "e")))

    def check_refused(self, walk, error, tick, *ends):
        before = shown(walk)
        with self.assertRaises(error, msg=(tick, ends)) as caught:
            walk.at(tick, *ends)
        self.assertIs(type(caught.exception), error)
        self.assertEqual(shown(walk), before)
        return caught.exception

    def test_ticks_that_are_refused(self):
        walk = Walk(DAY, BOUNDS, WAITS)
        for value in (-1, True, None, "1", 10 ** 34 + 1, (1,), [1], {}, 10 ** 59):
            self.assertTrue(is_same(self.check_refused(walk, InvalidNumber, value).given, value))
            self.assertTrue(is_same(self.check_refused(walk.at(5), InvalidNumber, value, "x").given, value))
        for tick in (0, 4, 5):
            self.assertEqual(self.check_refused(walk.at(5), InvalidNumber, tick).given, tick)
        self.assertEqual(walk.at(5).at(6).tick, 6)
        self.assertEqual(self.check_refused(walk.at(0), InvalidNumber, 0, "land").given, 0)

    def test_ends_that_are_refused(self):
        walk = Walk(DAY, BOUNDS, WAITS)
        for tick, ends in ((9, ("land",)), (31, ("land",)), (30, ()), (31, ()), (50, ()), (12, ("board",)), (12, ("off",)),
                           (12, ("land", "land")), (12, ("land", "off")), (12, ("dawn",)), (12, ("fly",)), (12, ("x",)),
                           (12, (None,)), (12, (["land"],)), (12, (("land",),)), (12, ("land", None)), (12, (5,)), (12, ({},))):
            self.check_refused(walk, InvalidOperation, tick, *ends)
        for tick in (10, 30):
            self.assertEqual(walk.at(tick, "land").seen, ((tick, "land"),))
        self.assertEqual(walk.at(29).seen, ())
        self.check_refused(walk.at(29), InvalidOperation, 30)
        self.check_refused(walk.at(12, "land"), InvalidOperation, 13, "land")
        self.assertEqual(walk.at(12, "land").at(13).seen, ((12, "land"),))

    def test_looks(self):
        walk = Walk(FULL, *closure(FULL)).at(4, "land")
        # The storm takes from 2 to 6, and is seen two ticks late; the taxi from 1 to 3, and one tick late.
        self.check_refused(Walk(FULL, *closure(FULL)), InvalidOperation, 3, "clear")
        self.assertEqual(Walk(FULL, *closure(FULL)).at(4, "clear", "land").seen, ((4, "clear"), (4, "land")))
        self.check_refused(walk, InvalidOperation, 5, "gate")
        self.assertEqual(walk.at(6, "gate").seen, ((4, "land"), (6, "gate")))
        self.check_refused(walk, InvalidOperation, 8, "gate")
        self.check_refused(walk, InvalidOperation, 8, "clear")
        self.check_refused(walk, InvalidOperation, 8)
        self.assertEqual(walk.at(8, "gate", "clear").seen[1:], ((8, "call"), (8, "clear"), (8, "gate")))

    def test_an_end_of_a_work_that_begins_at_this_tick(self):
        walk = Walk(FULL, *closure(FULL))
        self.check_refused(walk, InvalidOperation, 4, "land", "gate")
        self.check_refused(walk, InvalidOperation, 5, "gate")
        net = Net({"a": 5, "e": 9}, {"w": ("a", "e", 1, 2, 0)}, {"x": ("a", "dawn", -2)})
        walk = Walk(net, *closure(net))
        self.check_refused(walk, InvalidOperation, 2, "e")
        self.assertEqual(walk.at(3, "e").seen, ((2, "a"), (3, "e")))
        self.assertEqual(walk.at(2).at(3).under_way, ("w",))
        self.check_refused(walk.at(3), InvalidOperation, 4)
        self.check_refused(walk, InvalidOperation, 4)

    def test_equality(self):
        walk = Walk(DAY, BOUNDS, WAITS)
        self.assertTrue(walk == Walk(DAY, dict(reversed(BOUNDS.items())), WAITS))
        self.assertTrue(walk.at(5) == walk.at(4).at(5) and not walk.at(5) != walk.at(5))
        self.assertTrue(walk != walk.at(0) and walk.at(5) != walk.at(6) and walk.at(12, "land") != walk.at(12))
        other = DAY.with_bounds({"more": ("dawn", "off", 60)})
        self.assertTrue(walk != Walk(other, BOUNDS, WAITS))
        for table in tables_of(DAY):
            if table != (BOUNDS, WAITS):
                self.assertTrue(walk != Walk(DAY, *table))
        waits = {**WAITS, ("dawn", "fly"): WAITS[("dawn", "fly")] + 1}
        for bounds, told in ((BOUNDS, waits), ({**BOUNDS, ("land", "board"): BOUNDS[("land", "board")]}, WAITS)):
            if is_closed(DAY, (bounds, told)):
                self.assertIs(walk == Walk(DAY, bounds, told), (bounds, told) == (BOUNDS, WAITS))
        for value in odd_values():
            self.assertIs(walk == value, isinstance(value, Walk))
            self.assertIs(walk.at(3) == value, False)

    def test_equality_by_bounds(self):
        net = Net({"a": 30, "b": 30})
        bounds, waits = closure(net)
        other = {**bounds, ("a", "b"): 29}
        self.assertTrue(is_closed(net, (other, waits)))
        self.assertTrue(Walk(net, bounds, waits) != Walk(net, other, waits))

    def test_equality_by_waits(self):
        net = Net({"a": 30, "e": 30}, {"w": ("dawn", "e", 2, 5, 0)}, {"x": ("a", "e", 1)})
        bounds, waits = closure(net)
        other = {**waits, ("a", "w"): waits[("a", "w")] + 1}
        self.assertTrue(is_closed(net, (bounds, other)))
        self.assertTrue(Walk(net, bounds, waits) != Walk(net, bounds, other))
        self.assertEqual([Walk(net, bounds, told).next()[0] for told in (waits, other)], [4, 5])

    def test_it_is_a_walk_behind_each_tick(self):
        walk = Walk(DAY, BOUNDS, WAITS).at(3)
        self.assertIs(type(walk), Walk)
        for told in (walk, walk.at(12, "land")):
            with self.assertRaises(TypeError):
                iter(told)
            for name in ("net", "tick", "seen", "under_way"):
                with self.assertRaises(AttributeError):
                    setattr(told, name, None)

    def test_far_next(self):
        net = Net({"a": 10 ** 30, "b": 10 ** 30}, (), {"x": ("a", "dawn", -(10 ** 30))})
        self.assertEqual(Walk(net, *closure(net)).at(0).next(), (10 ** 30, ("a",)))
        self.assertEqual(Walk(net, *closure(net)).at(10 ** 34).seen, ((0, "b"), (10 ** 30, "a")))


if __name__ == "__main__":
    unittest.main()
