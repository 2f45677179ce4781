"""Times that are told ahead: [10.1] to [10.5], stage 10."""

import random
import unittest
from itertools import product

from dawnway.errors import InvalidNet, InvalidOperation
from dawnway.net.nets import Net
from dawnway.parts.ahead import (
    ahead_paper, are_firm, earliest_times, firm_row, is_ahead_paper, windows,
)
from dawnway.play.plays import each_course, play
from dawnway.rule.tables import is_safe
from tests.helpers import BARE, CHAIN, DAY, are_keys_ascending, crossed_net, is_same, odd_values, random_net

LASTS, ROOM = {"go": 20, "land": 40, "open": 40}, {"soon": ("land", "open", 6), "behind": ("open", "land", -1)}
FLY = Net(LASTS, {"fly": ("go", "land", 5, 9, 0)}, ROOM)
LONG = Net(LASTS, {"fly": ("go", "land", 5, 11, 0)}, ROOM)
# Two works that begin by the end of one: both events hang on it.
FORK = Net(
    {"a": 30, "b": 30, "c": 30, "d": 30},
    {"u": ("d", "a", 2, 5, 0), "v": ("a", "b", 1, 4, 2), "w": ("a", "c", 3, 3, 0)},
    {"near": ("b", "c", 3), "far": ("c", "dawn", -9), "self": ("a", "b", 4)},
)


def ticks_in(net, times, course):
    """The ticks of all events in a course, dawn among them."""
    ticks = {"dawn": 0}
    for event in net.events:
        root, chain = net.road(event)
        ticks[event] = times.get(root, 0) + sum(course[work] for work in chain)
    return ticks


def is_kept(net, times, row):
    """Whether a told row holds in every course, by looking at all."""
    for course in each_course(net):
        ticks = ticks_in(net, times, course)
        if ticks[row[2]] > ticks[row[1]] + row[3]:
            return False
    return True


def all_firm(net):
    """All firm times of a small net, by trying all ticks."""
    found = []
    for ticks in product(*[range(net.lasts[deed] + 1) for deed in net.deeds]):
        times = dict(zip(net.deeds, ticks))
        if all(is_kept(net, times, net.row(word)) for word in net.told):
            found.append(times)
    return found


def some_nets(count=60):
    nets = [FORK, CHAIN.with_lengths({"storm": (2, 3)})]
    for seed in range(count):
        nets.append(random_net(seed, events=3 + seed % 2, works=seed % 3, bounds=1 + seed % 4, longest=2))
        nets.append(crossed_net(seed, works=2, bounds=1 + seed % 2, longest=2))
    return nets


class FirmRowTest(unittest.TestCase):
    def test_works_in_both_chains(self):
        self.assertEqual(FORK.road("b"), ("d", ("u", "v")))
        self.assertEqual(firm_row(FORK, ("bound", "near")), ("d", "d", 3 - 3 + 1))
        self.assertEqual(firm_row(FORK, ("bound", "self")), ("d", "d", 0))
        self.assertEqual(firm_row(FORK, ("bound", "far")), ("d", "dawn", -9 + 2 + 3))
        self.assertEqual(firm_row(FORK, ("last", "b")), ("dawn", "d", 30 - 5 - 4))
        self.assertEqual(firm_row(FORK, ("last", "d")), ("dawn", "d", 30))
        self.assertEqual(firm_row(FORK, ("begin", "b")), ("d", "dawn", 3))
        self.assertEqual(firm_row(FORK, ("most", "v")), ("d", "d", 0))
        self.assertEqual(firm_row(FORK, ("least", "u")), ("d", "d", 0))
        self.assertEqual(firm_row(DAY, ("bound", "walk")), ("board", "dawn", -5 - 30))
        self.assertEqual(firm_row(DAY, ("bound", "crew")), ("dawn", "off", 20 + 10))

    def test_it_holds_exactly_if_the_told_row_does(self):
        kinds = {}
        for seed, net in enumerate(some_nets()):
            rng = random.Random(seed)
            for _ in range(4):
                times = {deed: rng.randint(0, 9) for deed in net.deeds}
                ticks = {"dawn": 0, **times}
                for word in net.told:
                    first, second, most = firm_row(net, word)
                    self.assertEqual((first, second), tuple(net.road(event)[0] for event in net.row(word)[1:3]))
                    right = ticks[second] <= ticks[first] + most
                    self.assertIs(right, is_kept(net, times, net.row(word)))
                    kinds[right] = kinds.get(right, 0) + 1
        self.assertTrue(min(kinds.values()) > 200)

    def test_errors(self):
        for value in odd_values():
            if not isinstance(value, Net):
                with self.assertRaises(InvalidNet):
                    firm_row(value, None)
            with self.assertRaises(InvalidOperation):
                firm_row(FLY, value)
        for word in (("bound", "x"), ("last", "fly"), ("most", "land"), ["bound", "soon"], ("bound", "soon", 1), "soon"):
            with self.assertRaises(InvalidOperation):
                firm_row(FLY, word)


class AheadPaperTest(unittest.TestCase):
    def test_exactly_one_kind(self):
        kinds = {}
        for net in some_nets():
            found = all_firm(net)
            kind, value = ahead_paper(net)
            self.assertEqual(kind, "times" if found else "ring")
            self.assertIs(is_ahead_paper(net, (kind, value)), True)
            self.assertTrue(are_keys_ascending(value))
            if found:
                self.assertIn(value, found)
                least = {deed: min(times[deed] for times in found) for deed in net.deeds}
                self.assertTrue(is_same(earliest_times(net), least))
            else:
                self.assertIsNone(earliest_times(net))
                self.check_ring(net, value)
            kinds[kind] = kinds.get(kind, 0) + 1
        self.assertTrue(min(kinds.values()) > 20)

    def check_ring(self, net, words):
        rows = [firm_row(net, word) for word in words]
        self.assertTrue(len(rows) >= 1 and sum(row[2] for row in rows) < 0)
        for one, other in zip(rows, rows[1:] + rows[:1]):
            self.assertEqual(one[1], other[0])

    def test_all_times_of_small_nets_are_judged(self):
        judged = {}
        for net in some_nets(20):
            found = all_firm(net)
            for ticks in product(range(0, 10, 2), repeat=len(net.deeds)):
                times = dict(zip(net.deeds, ticks))
                self.assertIs(are_firm(net, times), times in found)
                self.assertIs(is_ahead_paper(net, ("times", times)), times in found)
                judged[times in found] = judged.get(times in found, 0) + 1
        self.assertTrue(min(judged.values()) > 30)

    def test_no_ring_where_there_are_times(self):
        for net in some_nets(30):
            if ahead_paper(net)[0] == "times":
                rng = random.Random(1)
                for _ in range(100):
                    words = tuple(rng.choice(net.told) for _ in range(rng.randint(1, 3)))
                    self.assertIs(is_ahead_paper(net, ("ring", words)), False)

    def test_rings(self):
        ring = (("bound", "soon"), ("bound", "behind"))
        for words in (ring, ring[::-1], ring * 2, ring * 3, ring * 40):
            self.assertIs(is_ahead_paper(LONG, ("ring", words)), True)
        for words in ((), ring[:1], ring[1:], (*ring, ring[0]), list(ring), (*ring, ("last", "x")), (ring[0], list(ring[1])),
                      (*ring, ("last", "go")), ("soon", "behind"), ring[0], None, (None,), ((None, None),)):
            self.assertIs(is_ahead_paper(LONG, ("ring", words)), False, words)
        self.assertIs(is_ahead_paper(LONG, ["ring", ring]), False)
        self.assertIs(is_ahead_paper(LONG, ("ring", ring, ())), False)
        self.assertIs(is_ahead_paper(LONG, ("rings", ring)), False)
        self.assertIs(is_ahead_paper(FLY, ("ring", ring)), False)

    def test_a_sum_of_0(self):
        net = FLY.with_lengths({"fly": (5, 10)})
        ring = (("bound", "soon"), ("bound", "behind"))
        self.assertEqual(sum(firm_row(net, word)[2] for word in ring), 0)
        self.assertIs(is_ahead_paper(net, ("ring", ring)), False)
        self.assertEqual(ahead_paper(net)[0], "times")

    def test_a_ring_of_one_word(self):
        net = FORK.with_bounds({"near": ("b", "c", 1)})
        self.assertEqual(firm_row(net, ("bound", "near")), ("d", "d", -1))
        self.assertIs(is_ahead_paper(net, ("ring", (("bound", "near"),))), True)
        self.assertEqual(ahead_paper(net)[0], "ring")
        late = Net({"e": 8}, {"w": ("dawn", "e", 2, 9, 0)})
        self.assertEqual(ahead_paper(late), ("ring", (("last", "e"),)))
        self.assertIsNone(earliest_times(late))

    def test_nets_without_deeds(self):
        net = Net({"e": 9}, {"w": ("dawn", "e", 2, 9, 0)})
        self.assertEqual((ahead_paper(net), earliest_times(net)), (("times", {}), {}))
        self.assertIs(are_firm(net, {}), True)
        self.assertIs(are_firm(net.with_lasts({"e": 8}), {}), False)
        self.assertEqual(windows(net, {}), {"e": (2, 9)})

    def test_times_a_tick_beyond(self):
        self.assertEqual(earliest_times(FLY), {"go": 0, "open": 10})
        for go, opens, right in ((0, 10, True), (0, 9, False), (0, 11, True), (0, 12, False), (20, 30, True), (21, 31, False),
                                 (20, 31, True), (20, 32, False), (3, 14, True), (3, 15, False)):
            self.assertIs(are_firm(FLY, {"go": go, "open": opens}), right, (go, opens))

    def test_values_that_are_no_times(self):
        for value in (*odd_values(), {"go": 0}, {"open": 10}, {"go": 0, "open": 10, "land": 9}, {"go": False, "open": 10},
                      {"go": 0, "open": "10"}, {"go": 0, "open": None}, {"go": -1, "open": 9}, {"go": 0, "open": [10]},
                      {"go": 0, "open": 10, 1: 1}, {"go": 0, "land": 9}, [("go", 0), ("open", 10)], {"go": 0, "opens": 10}):
            self.assertIs(are_firm(FLY, value), False)
            self.assertIs(is_ahead_paper(FLY, value), False)
            self.assertIs(is_ahead_paper(FLY, ("times", value)), False)
            self.assertIs(is_ahead_paper(LONG, ("ring", value)), False)
            self.assertIs(is_ahead_paper(LONG, ("ring", (value,))), False)
            with self.assertRaises(InvalidOperation):
                windows(FLY, value)
        self.assertIs(are_firm(FLY, {"open": 10, "go": 0}), True)

    def test_true_is_not_one(self):
        net = Net({"a": 1, "b": 1}, (), {})
        self.assertIs(are_firm(net, {"a": 1, "b": 1}), True)
        self.assertIs(are_firm(net, {"a": True, "b": 1}), False)

    def test_errors(self):
        for value in odd_values():
            if not isinstance(value, Net):
                for ask in (ahead_paper, earliest_times, lambda net: is_ahead_paper(net, None), lambda net: are_firm(net, None),
                            lambda net: windows(net, None)):
                    with self.assertRaises(InvalidNet):
                        ask(value)

    def test_far_numbers(self):
        far = 10 ** 30
        net = Net({"a": far, "e": far, "b": far}, {"w": ("a", "e", 1, far - 2, 5)}, {"x": ("b", "e", -1), "y": ("e", "b", far - 2)})
        self.assertEqual(ahead_paper(net)[0], "times")
        self.assertEqual(earliest_times(net), {"a": 0, "b": far - 1})
        self.assertEqual(ahead_paper(net.with_bounds({"y": ("e", "b", far - 3)}))[0], "ring")


class WindowsTest(unittest.TestCase):
    def test_over_all_courses(self):
        for seed, net in enumerate(some_nets(30)):
            rng = random.Random(seed)
            times = {deed: rng.randint(0, 20) for deed in net.deeds}
            ticks = [ticks_in(net, times, course) for course in each_course(net)]
            told = {event: (min(at[event] for at in ticks), max(at[event] for at in ticks)) for event in net.events}
            self.assertTrue(is_same(windows(net, times), told))

    def test_times_that_are_not_firm(self):
        self.assertEqual(windows(FLY, {"go": 30, "open": 0}), {"go": (30, 30), "land": (35, 39), "open": (0, 0)})
        far = 10 ** 34
        self.assertEqual(windows(FLY, {"go": far, "open": far})["land"], (far + 5, far + 9))
        with self.assertRaises(InvalidOperation):
            windows(FLY, {"go": far + 1, "open": far})


class StatementsTest(unittest.TestCase):
    def test_a_net_with_firm_times_has_a_closed_table(self):
        firm = 0
        for net in some_nets():
            if earliest_times(net) is not None:
                firm += 1
                self.assertIs(is_safe(net), True)
        self.assertGreater(firm, 20)

    def test_looks_do_not_matter(self):
        for net in some_nets(30):
            begun = [work[0] for work in net.works.values()]
            late = net.with_looks({name: 20 for name, work in net.works.items() if work[1] not in begun})
            self.assertEqual(earliest_times(late), earliest_times(net))

    def test_a_closed_table_without_firm_times(self):
        self.assertEqual((is_safe(LONG), earliest_times(LONG)), (True, None))

    def test_least_and_greatest_lengths_alone_do_not_tell(self):
        net = Net({"a": 30, "b": 30}, {"u": ("dawn", "a", 2, 5, 0), "v": ("dawn", "b", 2, 5, 0)}, {"x": ("a", "b", 0)})
        for at in (2, 3):
            course = {name: work[at] for name, work in net.works.items()}
            self.assertEqual(play(net, lambda tick, seen: ((), None), course).broken, ())
        self.assertEqual(ahead_paper(net), ("ring", (("bound", "x"),)))

    def test_ticks_in_plays(self):
        for net in some_nets(20):
            times = earliest_times(net)
            if times is not None:
                def way(tick, seen):
                    later = [at for at in times.values() if at > tick]
                    return tuple(deed for deed in net.deeds if times[deed] == tick), min(later, default=None)

                for course in each_course(net):
                    one = play(net, way, course)
                    self.assertEqual({"dawn": 0, **one.times}, ticks_in(net, times, course))
                    self.assertEqual(one.broken, ())


if __name__ == "__main__":
    unittest.main()
