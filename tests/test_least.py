"""Nets without works: [4.1] to [4.4], stage 4."""

import unittest

from dawnway.errors import InvalidNet, InvalidNumber, InvalidOperation, TooMany, UnknownName
from dawnway.net.least import (
    follows, free_net, idle_bounds, is_least_net, least_net, let_same, parting_times, trimmed,
)
from dawnway.net.nets import Net
from dawnway.net.times import are_times, has_times
from tests.helpers import BARE, CHAIN, DAY, all_times, are_keys_ascending, odd_values, random_bare, random_net


def nets():
    return [random_bare(seed, events=2 + seed % 2, bounds=1 + seed % 5) for seed in range(150)]


def differences(net):
    """The greatest differences over all times of a small net, or None."""
    found = [{"dawn": 0, **times} for times in all_times(net)]
    if not found:
        return None
    events = sorted(["dawn", *net.events])
    return {
        (one, other): max(times[other] - times[one] for times in found)
        for one in events for other in events if one != other
    }


class LeastNetTest(unittest.TestCase):
    def test_against_all_times(self):
        kinds = set()
        for net in nets():
            least = differences(net)
            kinds.add(least is None)
            self.assertEqual(least_net(net), least)
            self.assertTrue(are_keys_ascending(least_net(net)))
            self.assertIs(is_least_net(net, least), least is not None)
        self.assertEqual(kinds, {True, False})

    def test_it_is_as_told(self):
        for net in nets():
            least = least_net(net)
            if least is None:
                continue
            events = ["dawn", *net.events]
            for one in events:
                for other in events:
                    if one != other:
                        self.assertGreaterEqual(least[(one, other)] + least[(other, one)], 0)
                        for mid in events:
                            if mid not in (one, other):
                                self.assertLessEqual(least[(one, other)], least[(one, mid)] + least[(mid, other)])
            for event in net.events:
                self.assertLessEqual(least[(event, "dawn")], 0)
                self.assertLessEqual(least[("dawn", event)], net.lasts[event])

    def test_it_tells_the_same_times(self):
        for net in nets()[:50]:
            least = least_net(net)
            if least is not None:
                bounds = {f"x{index}": (*pair, most) for index, (pair, most) in enumerate(least.items())}
                self.assertEqual(all_times(Net(net.lasts, (), bounds)), all_times(net))

    def test_near_it(self):
        least = least_net(BARE)
        self.assertIs(is_least_net(BARE, least), True)
        self.assertIs(is_least_net(BARE, dict(reversed(least.items()))), True)
        for pair in least:
            for value in (least[pair] + 1, least[pair] - 1, None, str(least[pair]), (least[pair],)):
                self.assertIs(is_least_net(BARE, {**least, pair: value}), False, (pair, value))
            self.assertIs(is_least_net(BARE, {key: least[key] for key in least if key != pair}), False)
        for pair in (("a", "a"), ("a", "x"), "ab", ("a", "b", "c"), 1):
            self.assertIs(is_least_net(BARE, {**least, pair: 0}), False)
        for value in (*odd_values(), list(least.items()), (least,)):
            self.assertIs(is_least_net(BARE, value), False)

    def test_true_is_not_one(self):
        net = Net({"a": 1}, (), {"x": ("a", "dawn", 0)})
        self.assertIs(is_least_net(net, {("a", "dawn"): 0, ("dawn", "a"): 1}), True)
        self.assertIs(is_least_net(net, {("a", "dawn"): 0, ("dawn", "a"): True}), False)
        self.assertIs(is_least_net(net, {("a", "dawn"): False, ("dawn", "a"): 1}), False)

    def test_never_without_times(self):
        net = BARE.with_bounds({"x": ("a", "dawn", -10)})
        self.assertIsNone(least_net(net))
        for value in (None, {}, least_net(BARE)):
            self.assertIs(is_least_net(net, value), False)

    def test_the_greatest_net(self):
        names = [f"e{index:03}" for index in range(200)]
        bounds = {f"x{index}": (names[index], names[index + 1], -1) for index in range(199)}
        bounds.update({f"y{index}": (names[index + 1], names[index], 5) for index in range(199)})
        least = least_net(Net({name: 10 ** 30 for name in names}, (), bounds))
        self.assertEqual((least[("e000", "e199")], least[("e199", "e000")], len(least)), (-199, 995, 201 * 200))

    def test_far_bounds(self):
        far = 10 ** 40 - 1
        net = Net({"a": 10 ** 30, "b": 3}, (), {"x": ("a", "b", far), "y": ("b", "a", far)})
        told = {("a", "b"): 3, ("a", "dawn"): 0, ("b", "a"): 10 ** 30, ("b", "dawn"): 0,
                ("dawn", "a"): 10 ** 30, ("dawn", "b"): 3}
        self.assertEqual(least_net(net), told)


class SameTest(unittest.TestCase):
    def test_against_all_times(self):
        told = {True: 0, False: 0}
        for seed in range(200):
            one = random_bare(seed, events=2, bounds=1 + seed % 3)
            other = random_bare(seed + 1000, events=2, bounds=1 + seed % 2)
            for pair in ((one, other), (one, one.with_bounds({"more": ("a", "b", 4)})), (one, trimmed(one))):
                mine, its = all_times(pair[0]), all_times(pair[1])
                self.assertIs(let_same(*pair), mine == its)
                times = parting_times(*pair)
                told[times is None] += 1
                if mine == its:
                    self.assertIsNone(times)
                else:
                    self.assertEqual((times in mine) + (times in its), 1)
                    self.assertTrue(are_keys_ascending(times))
        self.assertTrue(told[True] and told[False])

    def test_times_of_just_one(self):
        none = BARE.with_bounds({"x": ("a", "dawn", -10)})
        other = BARE.with_bounds({"x": ("b", "dawn", -10)})
        self.assertIs(let_same(BARE, none), False)
        self.assertTrue(are_times(BARE, parting_times(BARE, none)))
        self.assertTrue(are_times(BARE, parting_times(none, BARE)))
        self.assertEqual((let_same(none, other), parting_times(none, other)), (True, None))

    def test_last_ticks_play_a_part(self):
        self.assertIs(let_same(BARE, BARE.with_lasts({"c": 8})), False)
        self.assertEqual(parting_times(BARE, BARE.with_lasts({"c": 8}))["c"], 9)

    def test_errors(self):
        other = Net({"a": 9, "b": 9})
        for ask in (let_same, parting_times):
            for value in (None, 5, "net", (), {}):
                for pair in ((value, BARE), (BARE, value), (value, DAY), (value, value)):
                    with self.assertRaises(InvalidNet):
                        ask(*pair)
            for pair in ((DAY, BARE), (BARE, DAY), (DAY, None), (BARE, other), (other, BARE), (BARE, CHAIN)):
                with self.assertRaises(InvalidOperation):
                    ask(*pair)


class FollowsTest(unittest.TestCase):
    def test_against_all_times(self):
        for net in nets()[:80]:
            found = [{"dawn": 0, **times} for times in all_times(net)]
            for one in ("dawn", *net.events):
                for other in ("dawn", *net.events):
                    if one != other:
                        for most in range(-6, 7):
                            kept = all(times[other] <= times[one] + most for times in found)
                            self.assertIs(follows(net, one, other, most), kept)

    def test_just_and_one_tick_less(self):
        for pair, most in least_net(BARE).items():
            self.assertIs(follows(BARE, *pair, most), True)
            self.assertIs(follows(BARE, *pair, most - 1), False)

    def test_errors(self):
        for value in (None, 5, "net", (), {}):
            with self.assertRaises(InvalidNet):
                follows(value, "x", "x", None)
        with self.assertRaises(InvalidOperation):
            follows(DAY, "x", "x", None)
        for value in ("x", None, 1, ["a"], "ab"):
            for ask in (lambda: follows(BARE, value, "y", None), lambda: follows(BARE, "a", value, None)):
                with self.assertRaises(UnknownName) as caught:
                    ask()
                self.assertEqual(caught.exception.wanted, value)
        for event in ("a", "dawn"):
            with self.assertRaises(InvalidOperation):
                follows(BARE, event, event, None)
        for value in (None, True, "1", 10 ** 40, -(10 ** 40), (1,), [1]):
            with self.assertRaises(InvalidNumber) as caught:
                follows(BARE, "a", "b", value)
            self.assertEqual(caught.exception.given, value)
        self.assertIs(follows(BARE, "a", "b", 10 ** 40 - 1), True)
        self.assertIs(follows(BARE, "a", "b", 1 - 10 ** 40), False)


class IdleTest(unittest.TestCase):
    def test_against_all_times(self):
        for net in nets():
            idle = tuple(name for name in net.bounds if all_times(net.without(name)) == all_times(net))
            self.assertEqual(idle_bounds(net), idle)

    def test_trimmed(self):
        for net in nets():
            left = net
            for name in net.bounds:
                if all_times(left.without(name)) == all_times(left):
                    left = left.without(name)
            self.assertEqual(trimmed(net), left)
            self.assertEqual(idle_bounds(left), ())
            self.assertIs(let_same(net, left), True)

    def test_idle_only_one_beside_the_other(self):
        net = Net({"a": 9, "b": 9}, (), {"x": ("a", "b", 2), "y": ("a", "b", 2)})
        self.assertEqual(idle_bounds(net), ("x", "y"))
        self.assertEqual(list(trimmed(net).bounds), ["y"])

    def test_what_lasts_and_begins_tell_is_idle(self):
        net = Net({"a": 9}, (), {"x": ("dawn", "a", 9), "y": ("a", "dawn", 0), "z": ("dawn", "a", 8)})
        self.assertEqual(idle_bounds(net), ("x", "y"))

    def test_without_times(self):
        net = Net({"a": 9}, (), {"x": ("a", "dawn", -10), "y": ("a", "dawn", -11), "z": ("dawn", "a", 3)})
        self.assertEqual(idle_bounds(net), ("x", "y", "z"))
        self.assertEqual(list(trimmed(net).bounds), ["y"])
        self.assertIs(has_times(trimmed(net)), False)

    def test_the_greatest_net(self):
        names = [f"e{index}" for index in range(200)]
        bounds = {f"x{index}": (names[index % 200], names[(index + 1) % 200], 3) for index in range(400)}
        self.assertEqual(len(trimmed(Net({name: 10 ** 9 for name in names}, (), bounds)).bounds), 200)

    def test_errors(self):
        for ask in (least_net, idle_bounds, trimmed, lambda net: is_least_net(net, None)):
            for value in (None, 5, "net", (), {}):
                with self.assertRaises(InvalidNet):
                    ask(value)
            for net in (DAY, CHAIN):
                with self.assertRaises(InvalidOperation):
                    ask(net)


class FreeNetTest(unittest.TestCase):
    def test_names_and_bounds(self):
        net = free_net(CHAIN)
        self.assertEqual(net.lasts, CHAIN.lasts)
        self.assertEqual(net.works, {})
        bounds = {
            **CHAIN.bounds,
            "most.0": ("dawn", "land", 5), "least.0": ("land", "dawn", -3),
            "most.1": ("dawn", "clear", 6), "least.1": ("clear", "dawn", -2),
            "most.2": ("land", "gate", 3), "least.2": ("gate", "land", -1),
            "most.3": ("call", "go", 2), "least.3": ("go", "call", -2),
        }
        self.assertEqual(net.bounds, bounds)
        self.assertEqual(free_net(BARE), BARE)

    def test_it_has_the_times_of_the_net(self):
        for seed in range(60):
            net = random_net(seed, events=3, works=1 + seed % 2, bounds=3, horizon=5)
            self.assertEqual(all_times(free_net(net)), all_times(net))

    def test_as_many_bounds_as_a_net_may_have(self):
        works = {"v": ("dawn", "a", 1, 2, 0), "w": ("dawn", "b", 1, 2, 0)}
        for many, works_too in ((396, works), (398, {"v": works["v"]}), (400, {})):
            net = Net({"a": 9, "b": 9}, works_too, {f"x{index}": ("a", "b", 5) for index in range(many)})
            self.assertEqual(len(free_net(net).bounds), 400)
        for many, works_too in ((397, works), (399, {"v": works["v"]}), (400, {"v": works["v"]})):
            net = Net({"a": 9, "b": 9}, works_too, {f"x{index}": ("a", "b", 5) for index in range(many)})
            with self.assertRaises(TooMany) as caught:
                free_net(net)
            self.assertEqual(caught.exception.limit, 400)

    def test_names_that_are_there(self):
        for name in ("most.0", "least.0", "most.3", "least.3"):
            with self.assertRaises(InvalidOperation):
                free_net(CHAIN.with_bounds({name: ("land", "go", 5)}))
        for name in ("most.4", "least.4", "most", "most.00"):
            self.assertIn(name, free_net(CHAIN.with_bounds({name: ("land", "go", 5)})).bounds)
        many = {f"x{index}": ("land", "go", 5) for index in range(392)}
        with self.assertRaises(TooMany):
            free_net(CHAIN.with_bounds({**many, "most.0": ("land", "go", 5)}))

    def test_errors(self):
        for value in (None, 5, "net", (), {}):
            with self.assertRaises(InvalidNet):
                free_net(value)


if __name__ == "__main__":
    unittest.main()
