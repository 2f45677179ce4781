"""What holds for all functions: [0.1] to [0.5], [1.3]."""

import unittest
from itertools import combinations

from dawnway.base import names
from dawnway.errors import (
    InvalidCourse, InvalidName, InvalidNet, InvalidNumber, InvalidOperation, InvalidRow, InvalidTable, InvalidWay,
    UnknownName,
)
from dawnway.net import least, nets, times
from dawnway.net.nets import Net
from dawnway.play import plays
from dawnway.play.plays import Play
from dawnway.rule import rows, tables
from tests.helpers import BARE, CHAIN, DAY, HARD, LINES, are_keys_ascending, is_same, odd_values, shown

NO_NET = (InvalidNet, None, [None, True, 5, "net", (), {}, [DAY], {"a": 1}, Play(BARE, {}, ())])
NO_PLACE = (UnknownName, "wanted", ["x", "fly", "", None, True, 0, ["land"], ("land",), {}, 10 ** 59, DAY])
NO_WORK = (UnknownName, "wanted", ["x", "land", "dawn", None, True, 0, ["fly"], ("fly",), {}, DAY])
NO_TICK = (InvalidNumber, "given", [-1, 10 ** 34 + 1, True, False, None, "1", (), [1], {1: 1}, 10 ** 59, DAY])
NO_INTEGER = (InvalidNumber, "given", [True, False, None, "1", (1,), [1], {}, 10 ** 40, -(10 ** 40), 10 ** 59, DAY])
NO_SEEN = (InvalidOperation, None, [None, [], "a", 5, ((1, "b"), (0, "a")), ((0, "a"), (1, "a")), ((True, "a"),), {}, DAY])
NO_NAME = (InvalidName, None, [None, "", "A", "dawn", 5, ["a"], True, "a" * 13, {}, DAY])
NO_ROW = (InvalidRow, None, [None, (), "x", 5, ("bound", "land", "x", 1), ("bound", "land", "off", True),
                             ("wait", "land", "fly", 1), ["bound", "land", "off", 1], {}, DAY])
NO_RULE = (InvalidOperation, None, [None, "", "told", 5, True, ["joined"], {}, DAY])
NO_COURSE = (InvalidCourse, None, [None, (), {}, {"fly": True}, {"fly": 9}, {"fly": 31}, {"x": 17}, {"fly": 17, "x": 1}, 5, DAY])
NO_WAY = (InvalidWay, None, [None, True, 5, "way", (), [], {}])
NO_LIST = (InvalidOperation, None, [None, (), [], "x", LINES[:2], LINES[::-1], (None,), 5, {}, DAY])
NO_BOUNDS = (InvalidTable, None, [None, (), [], {1: 1}, {("land", "land"): 1}, {("land", "off"): True}, {("fly", "off"): 1}, DAY])
NO_WAITS = (InvalidTable, None, [None, (), [], {1: 1}, {("land", "fly"): 1}, {("off", "fly"): True}, {("off", "x"): 1}, DAY])
NOT_BARE = (InvalidOperation, None, [DAY, HARD, CHAIN])
NO_TIMES = (InvalidOperation, None, [None, (), {"dawn": 1}, {"x": 1}, {"land": True}, {"land": -1}, {1: 1}, 5, DAY])
NO_DICT = (InvalidOperation, None, [None, (), [], "x", 5, True, DAY])
FREE = None


def still(tick, seen):
    """A way that does nothing."""
    return (), None


BOUNDS, WAITS = tables.closure(DAY)
SEEN = ((0, "on"), (3, "off"))
EARLY = {"board": 15, "land": 10, "off": 25}

# Each call: the function, right arguments, and for each argument the errors of wrong ones, in their order.
CALLS = [
    (names.seen_until, (SEEN, 2), [[NO_SEEN], [NO_TICK]]),
    (names.tick_of, (SEEN, "on"), [[NO_SEEN], [NO_NAME]]),
    (times.times_paper, (DAY,), [[NO_NET]]),
    (times.is_times_paper, (DAY, ("times", EARLY)), [[NO_NET], FREE]),
    (times.are_times, (DAY, EARLY), [[NO_NET], FREE]),
    (times.has_times, (DAY,), [[NO_NET]]),
    (times.earliest, (DAY,), [[NO_NET]]),
    (times.latest, (DAY,), [[NO_NET]]),
    (times.reach, (DAY, "land", "board"), [[NO_NET], [NO_PLACE], [NO_PLACE]]),
    (times.course_of, (DAY, EARLY), [[NO_NET], [NO_DICT]]),
    (least.least_net, (BARE,), [[NO_NET, NOT_BARE]]),
    (least.is_least_net, (BARE, {}), [[NO_NET, NOT_BARE], FREE]),
    (least.let_same, (BARE, BARE), [[NO_NET, NOT_BARE], [NO_NET, NOT_BARE]]),
    (least.parting_times, (BARE, BARE.without("ca")), [[NO_NET, NOT_BARE], [NO_NET, NOT_BARE]]),
    (least.follows, (BARE, "a", "b", 2), [[NO_NET, NOT_BARE], [NO_PLACE], [NO_PLACE], [NO_INTEGER]]),
    (least.idle_bounds, (BARE,), [[NO_NET, NOT_BARE]]),
    (least.trimmed, (BARE,), [[NO_NET, NOT_BARE]]),
    (least.free_net, (DAY,), [[NO_NET]]),
    (plays.is_course, (DAY, {"fly": 17}), [[NO_NET], FREE]),
    (lambda net: list(plays.each_course(net)), (DAY,), [[NO_NET]]),
    (plays.seen_at, (DAY, {"off": 3, "land": 2}, 5), [[NO_NET], [NO_TIMES], [NO_TICK]]),
    (plays.play, (DAY, still, {"fly": 17}), [[NO_NET], [NO_WAY], [NO_COURSE]]),
    (plays.first_broken, (DAY, still, ({"fly": 17},)),
     [[NO_NET], [NO_WAY], [(InvalidCourse, None, [None, {}, [], ({},), ({"fly": 9},), 5])]]),
    (Play, (DAY, {"fly": 17}, ((17, ("land",), ()),)), [[NO_NET], [NO_COURSE], [NO_DICT]]),
    (rows.is_row, (DAY, ("bound", "land", "off", 1)), [[NO_NET], FREE]),
    (rows.is_told, (DAY, ("bound", "walk")), [[NO_NET], FREE]),
    (rows.covers, (DAY, ("bound", "land", "off", 1), ("bound", "land", "off", 2)), [[NO_NET], [NO_ROW], [NO_ROW]]),
    (lambda net, rule, row, other: rows.made(net, rule, row, other=other),
     (DAY, "joined", ("bound", "land", "off", 1), ("bound", "off", "board", 2)), [[NO_NET], [NO_RULE], [NO_ROW], [NO_ROW]]),
    (lambda net, rule, row, other: rows.made(net, rule, row, other=other),
     (DAY, "first", ("bound", "board", "land", 1), None),
     [[NO_NET], [NO_RULE], [NO_ROW], [(InvalidRow, None, [("bound", "off", "board", 2), (), 5, False, {}])]]),
    (rows.is_list, (HARD, LINES), [[NO_NET], FREE]),
    (rows.list_fault, (HARD, LINES), [[NO_NET], FREE]),
    (rows.used_lines, (HARD, LINES), [[NO_NET], [NO_LIST]]),
    (tables.is_form, (DAY, (BOUNDS, WAITS)), [[NO_NET], FREE]),
    (tables.table_fault, (DAY, BOUNDS, WAITS), [[NO_NET], [NO_BOUNDS], [NO_WAITS]]),
    (tables.is_closed, (DAY, (BOUNDS, WAITS)), [[NO_NET], FREE]),
    (tables.answer, (DAY,), [[NO_NET]]),
    (tables.answer, (HARD,), [[NO_NET]]),
    (tables.is_answer, (DAY, ("table", BOUNDS, WAITS)), [[NO_NET], FREE]),
    (tables.is_safe, (DAY,), [[NO_NET]]),
    (tables.closure, (DAY,), [[NO_NET]]),
    (tables.tightest, (DAY, "land", "off"), [[NO_NET], [NO_PLACE], [NO_PLACE]]),
    (tables.needed_wait, (DAY, "off", "fly"), [[NO_NET], [NO_PLACE], [NO_WORK]]),
    (DAY.row, (("bound", "walk"),), [[NO_DICT]]),
    (DAY.work_of, ("land",), [[NO_PLACE]]),
    (DAY.road, ("land",), [[NO_PLACE]]),
    (DAY.with_bounds, ({"x": ("land", "off", 1), "a": ("land", "off", 2)},), [[NO_DICT]]),
    (DAY.without, ("walk", "crew"), [[NO_WORK], [NO_WORK]]),
    (DAY.with_lengths, ({"fly": (3, 4)},), [[NO_DICT]]),
    (DAY.with_looks, ({"fly": 3},), [[NO_DICT]]),
    (DAY.with_lasts, ({"off": 3, "board": 2},), [[NO_DICT]]),
    (DAY.renamed, ({"off": "x", "board": "b"},), [[NO_DICT]]),
    (nets.net_fault, (DAY.lasts, DAY.works, DAY.bounds), [FREE, FREE, FREE]),
    (Net, (DAY.lasts, DAY.works, DAY.bounds), [[(InvalidNet, None, [(), None, {"a": True}])]] + [[(InvalidNet, None, [[], None, {"a": True}])]] * 2),
]


def own(value):
    """A copy that shares no dict and no list."""
    if isinstance(value, dict):
        return {key: own(value[key]) for key in value}
    if isinstance(value, (tuple, list)):
        return type(value)(own(item) for item in value)
    return value


def turned(value):
    """The value with the keys of its dicts in another sequence."""
    if isinstance(value, dict):
        return {key: turned(value[key]) for key in reversed(value)}
    if isinstance(value, tuple):
        return tuple(turned(item) for item in value)
    return value


def spoilt(value):
    """Empties all dicts and lists of a returned value."""
    if isinstance(value, (dict, list)):
        for item in value.values() if isinstance(value, dict) else value:
            spoilt(item)
        value.clear()
    if isinstance(value, tuple):
        for item in value:
            spoilt(item)


class CallsTest(unittest.TestCase):
    def test_right_calls(self):
        for call, right, _ in CALLS:
            given = own(right)
            told = call(*given)
            self.assertEqual(shown(given), shown(right))
            if not isinstance(told, (Net, Play)):
                self.assertTrue(are_keys_ascending(told))
            again = shown(told)
            self.assertEqual(shown(call(*turned(given))), again)
            spoilt(told)
            self.assertEqual(shown(call(*given)), again)
            self.assertEqual(shown(given), shown(right))

    def test_one_wrong_argument(self):
        for call, right, errors in CALLS:
            for at, kinds in enumerate(errors):
                for error, attribute, values in kinds or ():
                    for value in values:
                        self.check(call, (*right[:at], value, *right[at + 1:]), error, attribute, value)

    def test_two_wrong_arguments(self):
        for call, right, errors in CALLS:
            for one, other in combinations([at for at, kinds in enumerate(errors) if kinds], 2):
                for error, attribute, values in errors[one]:
                    for _, _, others in errors[other]:
                        for value, later in zip(values, others[1:] + others[:1]):
                            given = (*right[:one], value, *right[one + 1:other], later, *right[other + 1:])
                            self.check(call, given, error, attribute, value)

    def check(self, call, given, error, attribute, value):
        before = [shown(item) for item in given]
        with self.assertRaises(error, msg=before) as caught:
            call(*given)
        self.assertIs(type(caught.exception), error)
        self.assertEqual([shown(item) for item in given], before)
        if attribute is not None:
            self.assertTrue(is_same(getattr(caught.exception, attribute), value))

    def test_judging_functions_accept_every_value(self):
        for call, right, errors in CALLS:
            if call.__name__.startswith(("is_", "are_", "list_")) and len(right) == 2:
                for value in odd_values():
                    for held in (value, (value,), (value, value), ("times", value), ("table", value, value), {"land": value}):
                        before = shown(held)
                        told = call(*right[:-1], held)
                        self.assertEqual(shown(held), before)
                        if call != rows.list_fault:
                            self.assertIsInstance(told, bool)


class TrueIsNotOneTest(unittest.TestCase):
    def test_in_the_place_of_numbers(self):
        net = Net({"a": 1, "e": 1}, {"w": ("dawn", "e", 1, 1, 0)}, {"x": ("a", "e", 1)})
        bounds, waits = tables.closure(net)
        self.assertIs(tables.is_closed(net, (bounds, waits)), True)
        for rows_of, part in ((bounds, 0), (waits, 1)):
            for pair in rows_of:
                if rows_of[pair] in (0, 1):
                    wrong = {**rows_of, pair: bool(rows_of[pair])}
                    self.assertIs(tables.is_form(net, (wrong, waits) if part == 0 else (bounds, wrong)), False)
        self.assertIs(times.are_times(net, {"a": 1, "e": 1}), True)
        self.assertIs(times.are_times(net, {"a": True, "e": 1}), False)
        self.assertIs(times.are_times(net, {"a": False, "e": 1}), False)
        self.assertIs(plays.is_course(net, {"w": 1}), True)
        self.assertIs(plays.is_course(net, {"w": True}), False)
        self.assertIs(rows.is_row(net, ("bound", "a", "e", 1)), True)
        self.assertIs(rows.is_row(net, ("bound", "a", "e", True)), False)
        self.assertIs(rows.is_row(net, ("wait", "a", "w", False)), False)


class LongNumbersTest(unittest.TestCase):
    def test_forty_and_forty_one_digits(self):
        far = 10 ** 40 - 1
        for number in (far, -far):
            self.assertEqual(Net({"a": 1, "b": 1}, (), {"x": ("a", "b", number)}).bounds["x"][2], number)
            self.assertIs(rows.is_row(DAY, ("bound", "land", "off", number)), True)
            self.assertIs(tables.is_form(DAY, ({("land", "off"): number}, {("off", "fly"): number})), True)
            least.follows(BARE, "a", "b", number)
        for number in (far + 1, -far - 1):
            with self.assertRaises(InvalidNet):
                Net({"a": 1, "b": 1}, (), {"x": ("a", "b", number)})
            self.assertIs(rows.is_row(DAY, ("bound", "land", "off", number)), False)
            self.assertIs(tables.is_form(DAY, ({("land", "off"): number}, {})), False)
            self.assertIs(tables.is_form(DAY, ({}, {("off", "fly"): number})), False)

    def test_ticks(self):
        self.assertEqual(plays.seen_at(BARE, {"a": 10 ** 34}, 10 ** 34), ((10 ** 34, "a"),))
        with self.assertRaises(InvalidOperation):
            plays.seen_at(BARE, {"a": 10 ** 34 + 1}, 10 ** 34)


if __name__ == "__main__":
    unittest.main()
