"""Times and rings: [3.1] to [3.5], stage 3."""

import unittest

from dawnway.errors import InvalidNet, InvalidOperation, Refused, UnknownName
from dawnway.net.nets import Net
from dawnway.net.times import (
    are_times, course_of, earliest, has_times, is_times_paper, latest, reach, times_paper,
)
from dawnway.play.plays import is_course
from tests.helpers import BARE, CHAIN, DAY, HARD, all_times, are_keys_ascending, is_same, odd_values, random_net

# Each two of the three bounds can be kept together, but not all.
THREE = Net(
    {"a": 5, "b": 5, "c": 5}, (), {"ab": ("b", "a", -1), "bc": ("c", "b", -1), "ca": ("a", "c", -1)},
)
RING = (("bound", "ab"), ("bound", "ca"), ("bound", "bc"))


def nets():
    return [random_net(seed, events=3, works=seed % 3, bounds=1 + seed % 5, horizon=5) for seed in range(150)]


class PaperTest(unittest.TestCase):
    def test_just_one_kind_is_right(self):
        kinds = set()
        for net in nets():
            found = all_times(net)
            paper = times_paper(net)
            kinds.add(paper[0])
            self.assertEqual(paper[0], "times" if found else "ring")
            self.assertIs(has_times(net), bool(found))
            self.assertIs(is_times_paper(net, paper), True)
            self.assertTrue(are_keys_ascending(paper))
            if not found:
                self.assertEqual(len(set(paper[1])), len(paper[1]))
        self.assertEqual(kinds, {"times", "ring"})

    def test_no_ring_where_there_are_times(self):
        for net in nets():
            if all_times(net):
                words = net.told
                for one in words:
                    for other in words:
                        self.assertIs(is_times_paper(net, ("ring", (one, other))), False)

    def test_ring_turned_and_told_twice(self):
        for ring in (RING, RING[1:] + RING[:1], RING[2:] + RING[:2], RING * 2, RING * 5):
            self.assertIs(is_times_paper(THREE, ("ring", ring)), True, ring)

    def test_what_is_no_ring(self):
        wrong = (
            (), RING[:1], RING[:2], RING[::-1], (*RING, ("bound", "ab")), (*RING[:2], ("bound", "no")),
            (*RING[:2], ("last", "dawn")), (*RING[:2], "bc"), (*RING[:2], ["bound", "bc"]), list(RING), None, "ring",
            (*RING[:2], ("bound", [])), (*RING[:2], None), (("last", "a"), ("begin", "a")), (*RING[:2], ("bound",)),
        )
        for ring in wrong:
            self.assertIs(is_times_paper(THREE, ("ring", ring)), False, ring)
        for value in (RING, ("ring",), ("ring", RING, 0), ["ring", RING], ("times", RING), ("rings", RING)):
            self.assertIs(is_times_paper(THREE, value), False, value)

    def test_one_word_is_no_ring(self):
        net = Net({"a": 5}, (), {"x": ("a", "dawn", -6)})
        self.assertIs(is_times_paper(net, ("ring", (("bound", "x"),))), False)
        self.assertIs(is_times_paper(net, ("ring", (("bound", "x"), ("last", "a")))), True)

    def test_a_sum_of_nothing_is_no_ring(self):
        net = Net({"a": 5, "b": 5}, (), {"x": ("a", "b", 2), "y": ("b", "a", -2), "z": ("b", "a", -3)})
        self.assertIs(is_times_paper(net, ("ring", (("bound", "x"), ("bound", "y")))), False)
        self.assertIs(is_times_paper(net, ("ring", (("bound", "x"), ("bound", "z")))), True)
        # Twice the ring with a sum of nothing and once the other one goes below 0 together.
        joined = (("bound", "x"), ("bound", "y"), ("bound", "x"), ("bound", "z"))
        self.assertIs(is_times_paper(net, ("ring", joined)), True)

    def test_rings_of_all_sorts_of_words(self):
        net = Net({"a": 4, "e": 9}, {"w": ("a", "e", 3, 5, 7)}, {"x": ("e", "dawn", -9), "y": ("dawn", "e", 2)})
        self.assertIs(is_times_paper(net, ("ring", (("bound", "x"), ("bound", "y")))), True)
        self.assertIs(is_times_paper(net, ("ring", (("last", "a"), ("most", "w"), ("bound", "x")))), False)
        self.assertIs(is_times_paper(net, ("ring", (("bound", "y"), ("least", "w"), ("begin", "a")))), True)

    def test_far_numbers(self):
        far = 10 ** 40 - 1
        net = Net({"a": 10 ** 30, "b": 10 ** 30}, (), {"x": ("a", "b", -far), "y": ("b", "a", -far), "z": ("a", "b", far)})
        paper = times_paper(net)
        self.assertTrue(paper[0] == "ring" and is_times_paper(net, paper))
        self.assertTrue(has_times(Net({"a": 10 ** 30, "b": 10 ** 30}, (), {"z": ("a", "b", far)})))

    def test_the_greatest_net(self):
        names = [f"e{index}" for index in range(200)]
        bounds = {f"x{index}": (names[index], names[index + 1], -1) for index in range(199)}
        net = Net({name: 198 for name in names}, (), bounds)
        paper = times_paper(net)
        self.assertTrue(paper[0] == "ring" and is_times_paper(net, paper) and len(set(paper[1])) == len(paper[1]))
        self.assertTrue(has_times(net.with_lasts({"e0": 199})))

    def test_every_value_is_judged(self):
        for value in odd_values():
            for net in (DAY, HARD, BARE, THREE):
                for told in (value, ("times", value), ("ring", value), ("ring", (value, value)), ("ring", (("bound", value),) * 2)):
                    self.assertIs(is_times_paper(net, told), False)
                self.assertIs(are_times(net, value), False)


class TimesTest(unittest.TestCase):
    def test_are_times_against_all_ticks(self):
        for net in nets()[:60]:
            found = all_times(net)
            for times in found:
                self.assertIs(are_times(net, times), True)
                self.assertIs(is_times_paper(net, ("times", times)), True)
                for event in net.events:
                    for step in (-1, 1):
                        other = {**times, event: times[event] + step}
                        self.assertIs(are_times(net, other), other in found)

    def test_each_bound_last_tick_and_length(self):
        net = Net({"a": 9, "e": 12}, {"w": ("a", "e", 2, 4, 6)}, {"x": ("dawn", "a", 8), "y": ("a", "e", 3)})
        for ticks, right in (((8, 10), True), ((8, 9), False), ((8, 11), True), ((8, 12), False), ((9, 12), False),
                             ((0, 2), True), ((-1, 1), False), ((0, 1), False)):
            self.assertIs(are_times(net, {"a": ticks[0], "e": ticks[1]}), right, ticks)
        self.assertIs(are_times(net.without("x", "y"), {"a": 9, "e": 12}), True)
        self.assertIs(are_times(net.without("x", "y"), {"a": 9, "e": 13}), False)
        self.assertIs(are_times(net.without("x", "y"), {"a": 10, "e": 12}), False)
        self.assertIs(are_times(net.without("x", "y"), {"a": 5, "e": 9}), True)
        self.assertIs(are_times(net.without("x", "y"), {"a": 5, "e": 10}), False)

    def test_what_is_no_times(self):
        right = {"board": 15, "land": 10, "off": 25}
        self.assertIs(are_times(DAY, right), True)
        self.assertIs(are_times(DAY, dict(reversed(right.items()))), True)
        for value in ({**right, "dawn": 0}, {"board": 15, "land": 10}, {**right, "land": True}, {**right, "land": "10"},
                      {**right, "land": None}, {**right, "land": [10]}, list(right.items()), {"board": 15, "land": 10, 1: 25}):
            self.assertIs(are_times(DAY, value), False, value)
        self.assertIs(are_times(Net({"a": 1}), {"a": True}), False)
        self.assertIs(are_times(Net({"a": 1}), {"a": False}), False)

    def test_looks_play_no_part(self):
        for look in (0, 1, 20):
            net = CHAIN.with_looks({"storm": look, "taxi": look, "tow": look})
            self.assertEqual(times_paper(net), times_paper(CHAIN))
            self.assertEqual((earliest(net), latest(net)), (earliest(CHAIN), latest(CHAIN)))

    def test_earliest_latest_and_reach(self):
        for net in nets():
            found = all_times(net)
            if not found:
                continue
            self.assertTrue(is_same(earliest(net), {e: min(times[e] for times in found) for e in net.events}))
            self.assertTrue(is_same(latest(net), {e: max(times[e] for times in found) for e in net.events}))
            self.assertTrue(are_times(net, earliest(net)) and are_times(net, latest(net)))
            for first in ("dawn", *net.events):
                for second in ("dawn", *net.events):
                    apart = {{"dawn": 0, **times}[second] - {"dawn": 0, **times}[first] for times in found}
                    self.assertEqual(reach(net, first, second), (min(apart), max(apart)))
                    self.assertEqual(len(apart), max(apart) - min(apart) + 1)

    def test_course_of(self):
        for net in nets()[:60]:
            for times in all_times(net):
                course = course_of(net, times)
                self.assertTrue(is_course(net, course) and are_keys_ascending(course))
                ticks = {"dawn": 0, **times}
                for name, (begin, end, *_) in net.works.items():
                    self.assertEqual(ticks[end] - ticks[begin], course[name])
        for value in (*odd_values(), {"board": 15, "land": 9, "off": 25}):
            with self.assertRaises(InvalidOperation):
                course_of(DAY, value)

    def test_refused_with_a_right_ring(self):
        for net in nets():
            if all_times(net):
                continue
            for ask in (lambda: earliest(net), lambda: latest(net), lambda: reach(net, "dawn", "a"), lambda: reach(net, "b", "b")):
                with self.assertRaises(Refused) as caught:
                    ask()
                self.assertEqual(caught.exception.reason[0], "ring")
                self.assertIs(is_times_paper(net, caught.exception.reason), True)

    def test_errors_in_their_order(self):
        for value in (None, 5, "net", (), {}, [DAY]):
            for ask in (times_paper, has_times, earliest, latest):
                with self.assertRaises(InvalidNet):
                    ask(value)
            with self.assertRaises(InvalidNet):
                is_times_paper(value, None)
            with self.assertRaises(InvalidNet):
                are_times(value, None)
            with self.assertRaises(InvalidNet):
                course_of(value, None)
            with self.assertRaises(InvalidNet):
                reach(value, "no", "no")
        for value in ("fly", "x", None, 1, ["land"], ()):
            for ask in (lambda: reach(THREE, value, "no"), lambda: reach(THREE, "a", value)):
                with self.assertRaises(UnknownName) as caught:
                    ask()
                self.assertEqual(caught.exception.wanted, value)


class StatementsTest(unittest.TestCase):
    def test_lesser_and_greater_ticks_are_times(self):
        for net in nets()[:60]:
            found = all_times(net)
            for one in found[::3]:
                for other in found[::4]:
                    self.assertIs(are_times(net, {e: min(one[e], other[e]) for e in one}), True)
                    self.assertIs(are_times(net, {e: max(one[e], other[e]) for e in one}), True)

    def test_a_bound_too_many_stands_in_each_ring(self):
        for net in nets():
            if has_times(net):
                for first in ("dawn", *net.events):
                    for second in net.events:
                        if first != second:
                            more = net.with_bounds({"more": (first, second, reach(net, first, second)[0] - 1)})
                            self.assertIn(("bound", "more"), times_paper(more)[1])
                            self.assertEqual(times_paper(more)[0], "ring")

    def test_each_two_bounds_but_not_all(self):
        for name in THREE.bounds:
            self.assertIs(has_times(THREE.without(name)), True)
        self.assertIs(has_times(THREE), False)

    def test_earliest_times_are_not_those_of_the_least_lengths(self):
        net = Net({"a": 9, "b": 9}, {"x": ("dawn", "a", 1, 5, 0)}, {"y": ("a", "dawn", -3)})
        self.assertEqual(course_of(net, earliest(net)), {"x": 3})


if __name__ == "__main__":
    unittest.main()
