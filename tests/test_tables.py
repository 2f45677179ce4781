"""Closed tables: [0.17], [0.18], [7.1] to [7.5], stage 7."""

import random
import unittest

from dawnway.errors import InvalidNet, InvalidOperation, InvalidTable, UnknownName
from dawnway.net.nets import Net
from dawnway.net.times import has_times
from dawnway.play.plays import each_course, play
from dawnway.rule.closing import closing_of
from dawnway.rule.rows import covers, is_list, is_row, made
from dawnway.rule.tables import (
    answer, closure, is_answer, is_closed, is_form, is_safe, needed_wait, table_fault, tightest,
)
from tests.helpers import (
    BARE, CHAIN, DAY, HARD, LATE, LINES, are_keys_ascending, closure_by_adding, crossed_net, is_same, is_winnable,
    odd_values, random_net, walk_of,
)

BOUNDS, WAITS = closure(DAY)
FAR = 10 ** 40 - 1


def nets(count=200, horizon=6):
    """Half of them of all sorts, half of them such that works cross each other."""
    told = []
    for seed in range(count // 2):
        told.append(random_net(seed, events=2 + seed % 3, works=1 + seed % 2, bounds=1 + seed % 4, horizon=horizon))
        told.append(crossed_net(seed, works=2, bounds=1 + seed % 3, horizon=horizon, longest=2 + seed % 2))
    return told


def rows_of(bounds, waits):
    return [("bound", *pair, bounds[pair]) for pair in bounds] + [("wait", *pair, waits[pair]) for pair in waits]


def plain_fault(net, bounds, waits):
    """The fault of a table, by trying all rules on all rows."""
    rows = rows_of(bounds, waits)

    def is_there(row):
        return row[0] == "bound" and row[1] == row[2] and row[3] >= 0 or any(covers(net, one, row) for one in rows)

    for word in net.told:
        if not is_there(net.row(word)):
            return "told", word
    faults = []
    for row in rows:
        for rule in ("early", "first", "both", "sure"):
            new = made(net, rule, row)
            if new is not None and not is_there(new):
                faults.append(("made", rule, row))
        for other in rows:
            for rule in ("joined", "late"):
                new = made(net, rule, row, other=other)
                if new is not None and not is_there(new):
                    faults.append(("made", rule, row, other))
    return min(faults, default=None)


# Of these nets with three works, the closure has waits by `late`, or by `both`, or waits that hang on
# bounds that were made by other waits; or the list has such.
CLOSED_LATE = (10, 13, 91, 128, 152, 155, 164, 167, 186, 252, 256, 263, 274, 380, 412, 418, 462, 515, 516, 517)
CLOSED_BOTH = (58, 60, 62, 130, 138, 347, 521, 568, 570, 712, 802)
CLOSED_AGAIN = (107, 683, 893, 1468, 1546)
LISTED_LATE = (43, 175, 304, 319, 474, 564, 586, 651, 675, 697, 714, 816)


class FormTest(unittest.TestCase):
    def test_forms(self):
        for value in ((BOUNDS, WAITS), ({}, {}), ({("land", "dawn"): FAR}, {}), ({}, {("dawn", "fly"): -FAR}),
                      ({("off", "board"): 0}, {("off", "fly"): 0})):
            self.assertIs(is_form(DAY, value), True)
        bounds = (
            None, (), [], {"landdawn": 1}, {("land",): 1}, {("land", "dawn", "off"): 1}, {("land", "land"): 1},
            {("dawn", "dawn"): 1}, {("land", "fly"): 1}, {("x", "land"): 1}, {("land", "dawn"): True},
            {("land", "dawn"): None}, {("land", "dawn"): FAR + 1}, {("land", "dawn"): (1,)}, {1: 1}, {(1, "land"): 1},
            {("land", "dawn"): 1, None: 1}, {("land", ("dawn",)): 1},
        )
        waits = (
            None, (), [], {"landfly": 1}, {("off",): 1}, {("off", "fly", "fly"): 1}, {("land", "fly"): 1},
            {("off", "x"): 1}, {("x", "fly"): 1}, {("off", "land"): 1}, {("off", "fly"): False},
            {("off", "fly"): None}, {("off", "fly"): -FAR - 1}, {("off", "fly"): [1]}, {1: 1}, {("off", 1): 1},
            {("off", "fly"): 1, ("fly", "off"): 1},
        )
        for value in bounds:
            self.assertIs(is_form(DAY, (value, WAITS)), False, value)
            with self.assertRaises(InvalidTable):
                table_fault(DAY, value, WAITS)
            with self.assertRaises(InvalidTable):
                table_fault(DAY, value, None)
        for value in waits:
            self.assertIs(is_form(DAY, (BOUNDS, value)), False, value)
            with self.assertRaises(InvalidTable):
                table_fault(DAY, BOUNDS, value)
        for value in ([BOUNDS, WAITS], (BOUNDS,), (BOUNDS, WAITS, {}), ("table", BOUNDS, WAITS), {0: BOUNDS, 1: WAITS}):
            self.assertIs(is_form(DAY, value), False)
            self.assertIs(is_closed(DAY, value), False)

    def test_every_value_is_judged(self):
        for value in odd_values():
            for judge in (is_form, is_closed, is_answer):
                self.assertIs(judge(DAY, value), value == ({}, {}) and judge is is_form)
                self.assertIs(judge(DAY, (value, value)), value == {} and judge is is_form)
                self.assertIs(judge(HARD, ("list", value)), False)
                self.assertIs(judge(DAY, ("table", value, WAITS)), False)
                self.assertIs(judge(DAY, (value, BOUNDS, WAITS)), False)
                if not isinstance(value, Net):
                    with self.assertRaises(InvalidNet):
                        judge(value, None)
            if not isinstance(value, Net):
                for ask in (answer, is_safe, closure, lambda net: table_fault(net, None, None),
                            lambda net: tightest(net, None, None), lambda net: needed_wait(net, None, None)):
                    with self.assertRaises(InvalidNet):
                        ask(value)


class ClosureTest(unittest.TestCase):
    def test_against_rows_added_one_after_another(self):
        kinds = set()
        for seed, net in enumerate(nets(150)):
            told = closure_by_adding(net, seed)
            kinds.add((told is None, has_times(net)))
            self.assertTrue(is_same(closure(net), told), seed)
            self.assertEqual(told, closure_by_adding(net, seed + 1))
        self.assertEqual(kinds, {(True, True), (True, False), (False, True)})

    def test_more_works(self):
        for seed in range(80):
            net = crossed_net(seed, works=3, bounds=1 + seed % 3, horizon=14, longest=5, look=4)
            self.assertTrue(is_same(closure(net), closure_by_adding(net, seed)), seed)

    def test_waits_by_late_and_by_both(self):
        for seeds in (CLOSED_LATE, CLOSED_BOTH, CLOSED_AGAIN, LISTED_LATE):
            for seed in seeds:
                net = crossed_net(seed, works=3, bounds=2)
                self.assertTrue(is_same(closure(net), closure_by_adding(net, seed)), seed)
                self.assertIs(is_answer(net, answer(net)), True)
                self.assertIs(is_safe(net), seeds != LISTED_LATE)

    def test_each_rule_stands_in_some_list(self):
        words = set()
        for seed in range(200):
            told = answer(crossed_net(seed, works=3, bounds=3))
            if told[0] == "list":
                words.update(why[0] for _, why in told[1])
        self.assertEqual(words, {"bound", "last", "begin", "most", "least", "joined", "early", "first", "late", "both", "sure"})

    def test_exactly_one_of_both(self):
        for net in nets():
            table = closure(net)
            told = answer(net)
            self.assertIs(is_safe(net), table is not None)
            self.assertEqual(told[0], "list" if table is None else "table")
            self.assertIs(is_answer(net, told), True)
            self.assertTrue(are_keys_ascending(told))
            if table is None:
                self.assertEqual(len(told), 2)
                self.assertIs(is_list(net, told[1]), True)
            else:
                self.assertEqual(len(told), 3)
                self.assertIs(is_closed(net, told[1:]), True)
                self.assertIs(is_closed(net, table), True)
                self.assertIs(is_answer(net, ("table", *table)), True)

    def test_no_table_of_a_net_with_a_list(self):
        for net in nets():
            for number in (0, -10 ** 6):
                bounds = {(one, other): number for one in ("dawn", *net.events) for other in ("dawn", *net.events) if one != other}
                waits = {(one, work): -number for one in ("dawn", *net.events) for work in net.works if net.work_of(one) != work}
                self.assertIs(is_closed(net, (bounds, waits)), plain_fault(net, bounds, waits) is None)
                if not is_safe(net):
                    self.assertIs(is_closed(net, (bounds, waits)), False)

    def test_numbers_within_the_horizon(self):
        for net in nets():
            if is_safe(net):
                for number in closure(net)[0].values():
                    self.assertTrue(-net.horizon <= number <= net.horizon)

    def test_one_told_bound_after_another(self):
        kinds = {}
        for seed, net in enumerate(nets(200)):
            rng = random.Random(seed)
            closing = closing_of(net)
            for index in range(3):
                if not closing.is_barred():
                    bound = (*rng.sample(["dawn", *net.events], 2), rng.randint(-4, 4))
                    net = net.with_bounds({f"case.{index}": bound})
                    before = closing.as_table()
                    then = closing.beside(*bound, ("bound", f"case.{index}"))
                    self.assertTrue(is_same(closing.as_table(), before))
                    self.assertTrue(is_same(then.as_table(), closure(net)))
                    self.assertIs(then.keeps(*bound), True)
                    if then.is_barred():
                        self.assertIs(is_list(net, then.as_list()), True)
                    kinds[then.is_barred()] = kinds.get(then.is_barred(), 0) + 1
                    closing = then
        self.assertTrue(min(kinds.values()) > 50)

    def test_far_horizons(self):
        far = 10 ** 30
        net = Net({"a": far, "e": far, "o": far}, {"w": ("a", "e", 5, far, 3)},
                  {"x": ("e", "o", far), "y": ("o", "e", -1), "z": ("dawn", "o", far - 1), "s": ("dawn", "e", far - 2)})
        self.assertEqual(answer(net)[0], "list")
        self.assertTrue(is_answer(net, answer(net)))
        net = net.with_lengths({"w": (5, far - 9)})
        told = answer(net)
        self.assertEqual(told[0], "table")
        self.assertTrue(is_answer(net, told))
        self.assertEqual(tightest(net, "dawn", "a"), 7)

    def test_far_bounds(self):
        lasts = {"a": 10 ** 30, "b": 10 ** 30}
        for bounds in ({"x": ("a", "b", -FAR), "y": ("b", "a", -5)}, {"x": ("a", "b", -FAR), "y": ("b", "a", -FAR)},
                       {"x": ("a", "b", -5), "y": ("b", "a", -FAR)}, {"x": ("a", "b", FAR), "y": ("b", "a", -FAR)},
                       {"x": ("a", "dawn", -FAR), "y": ("b", "a", 5)}, {"x": ("dawn", "b", -FAR), "y": ("b", "dawn", -9)},
                       {"x": ("a", "b", -FAR), "y": ("b", "a", FAR)}):
            for works in ({}, {"w": ("dawn", "b", 10 ** 30, 10 ** 30, 20)}):
                net = Net(lasts, works, bounds)
                told = answer(net)
                self.assertEqual(told[0], "list")
                self.assertTrue(is_answer(net, told))
        net = Net(lasts, {"w": ("a", "b", 1, 10 ** 29, 20)}, {"x": ("a", "b", FAR)})
        self.assertTrue(is_answer(net, answer(net)) and is_safe(net))

    def test_a_great_net(self):
        names = [f"e{index:03}" for index in range(120)]
        works = {f"w{index}": (names[index], names[index + 60], 3, 9, 0) for index in range(40)}
        bounds = {f"x{index}": (names[index], names[index + 1], 40) for index in range(119)}
        net = Net({name: 10 ** 4 for name in names}, works, bounds)
        told = answer(net)
        self.assertEqual(told[0], "table")
        self.assertTrue(is_answer(net, told))
        tight = {f"y{index}": (names[index + 1], names[index], -90 if index == 70 else -1) for index in range(119)}
        hard = net.with_bounds(tight)
        told = answer(hard)
        self.assertEqual(told[0], "list")
        self.assertTrue(is_answer(hard, told))

    def test_equal_calls(self):
        for net in (DAY, HARD, CHAIN, LATE):
            self.assertTrue(is_same(answer(net), answer(Net(net.lasts, net.works, net.bounds))))

    def test_nothing_is_shared(self):
        bounds, waits = closure(DAY)
        bounds.clear()
        waits.clear()
        told = answer(DAY)
        told[1].clear()
        self.assertTrue(is_same(closure(DAY), (BOUNDS, WAITS)))


class FaultTest(unittest.TestCase):
    def test_told_ones_first(self):
        self.assertEqual(table_fault(DAY, {}, {}), ("told", ("bound", "crew")))
        net = Net({"a": 9, "b": 9, "e": 9}, {"w": ("a", "e", 2, 5, 3)}, {"x": ("a", "b", 4)})
        told = {net.row(word)[1:3]: net.row(word)[3] for word in net.told}
        self.assertEqual(table_fault(net, told, {})[0], "made")
        for word in net.told:
            _, first, second, most = net.row(word)
            for worse in ({**told, (first, second): most + 1}, {pair: told[pair] for pair in told if pair != (first, second)}):
                self.assertEqual(table_fault(net, worse, {}), ("told", word))

    def test_made_ones_in_their_order(self):
        wrong = {**WAITS, ("board", "fly"): 34}
        self.assertEqual(table_fault(DAY, BOUNDS, wrong), ("made", "first", ("bound", "board", "land", -5)))
        self.assertEqual(
            table_fault(DAY, {**BOUNDS, ("board", "off"): 9}, WAITS),
            ("made", "joined", ("bound", "board", "off", 9), ("bound", "off", "board", -10)),
        )
        lesser = {**BOUNDS, ("board", "dawn"): -14}
        self.assertEqual(table_fault(DAY, lesser, WAITS)[:3], ("made", "joined", ("bound", "board", "land", -5)))
        self.assertEqual(
            table_fault(DAY, BOUNDS, {**WAITS, ("off", "fly"): 52}),
            ("made", "late", ("bound", "board", "off", 15), ("wait", "off", "fly", 52)),
        )

    def test_against_all_rules_on_all_rows(self):
        rules = {}
        for seed, net in enumerate(nets(120)):
            table = closure(net) or ({}, {})
            rng = random.Random(seed)
            for _ in range(6):
                bounds, waits = dict(table[0]), dict(table[1])
                for rows in (bounds, waits):
                    for pair in list(rows):
                        if rng.random() < 0.1:
                            rows[pair] += rng.choice([-2, -1, 1, 2])
                        elif rng.random() < 0.03:
                            del rows[pair]
                fault = table_fault(net, bounds, waits)
                self.assertEqual(fault, plain_fault(net, bounds, waits))
                self.assertIs(is_closed(net, (bounds, waits)), fault is None)
                told = fault and (fault[1] if fault[0] == "made" else fault[0])
                rules[told] = rules.get(told, 0) + 1
        self.assertEqual(set(rules), {None, "told", "joined", "early", "first", "late", "both", "sure"})

    def test_a_work_called_like_an_event(self):
        for seed, net in enumerate(nets(80)):
            table = closure(net)
            spare = [event for event in net.events if net.work_of(event) != "w0"]
            if table is None or spare == []:
                continue
            named = net.renamed({"w0": spare[0]})
            bounds, waits = closure(named)
            self.assertIs(is_closed(named, (bounds, waits)), True)
            for pair in waits:
                wrong = {**waits, pair: waits[pair] - 1}
                self.assertEqual(table_fault(named, bounds, wrong), plain_fault(named, bounds, wrong))
                wrong = {key: waits[key] for key in waits if key != pair}
                self.assertEqual(table_fault(named, bounds, wrong), plain_fault(named, bounds, wrong))

    def test_keys_in_another_sequence(self):
        turned = dict(reversed(BOUNDS.items())), dict(reversed(WAITS.items()))
        self.assertIs(is_closed(DAY, turned), True)
        for number in (9, 16):
            wrong = {**turned[0], ("board", "off"): number}
            fault = table_fault(DAY, {**BOUNDS, ("board", "off"): number}, WAITS)
            self.assertIsNotNone(fault)
            self.assertEqual(table_fault(DAY, wrong, turned[1]), fault)

    def test_near_the_closure(self):
        for net in nets(60):
            table = closure(net)
            if table is None:
                continue
            for part in (0, 1):
                worse = 1 if part == 0 else -1
                for pair in table[part]:
                    for other in ({**table[part], pair: table[part][pair] + worse},
                                  {key: table[part][key] for key in table[part] if key != pair}):
                        value = (other, table[1]) if part == 0 else (table[0], other)
                        self.assertIs(is_closed(net, value), False)
                        self.assertIs(is_answer(net, ("table", *value)), False)

    def test_made_numbers_of_any_size(self):
        net = Net({"a": 9, "b": 9, "c": 9})
        bounds, waits = closure(net)
        wrong = {**bounds, ("a", "b"): -FAR, ("b", "c"): -FAR}
        fault = table_fault(net, wrong, waits)
        self.assertEqual(fault[:2], ("made", "joined"))
        self.assertIs(is_closed(net, (wrong, waits)), False)
        net = Net({"a": 9, "b": 9}, {"w": ("dawn", "b", 1, 2, 0)})
        bounds, waits = closure(net)
        self.assertEqual(table_fault(net, {**bounds, ("a", "b"): -FAR}, waits), ("made", "first", ("bound", "a", "b", -FAR)))

    def test_other_closed_tables_are_covered_by_row(self):
        others = 0
        for seed, net in enumerate(nets(150)):
            table = closure(net)
            if table is None:
                continue
            tighter = net.with_bounds({"more": ("dawn", net.deeds[0], net.lasts[net.deeds[0]] - 1)}) if net.deeds else net
            other = closure(tighter)
            if other is not None:
                self.assertIs(is_closed(net, other), True)
                for row in rows_of(*table):
                    rows = other[0] if row[0] == "bound" else other[1]
                    self.assertIs(covers(net, (*row[:3], rows[row[1:3]]), row), True)
                others += other != table
        self.assertGreater(others, 10)


class AnswerTest(unittest.TestCase):
    def test_only_one_kind_is_right(self):
        for net in nets(100):
            told = answer(net)
            if told[0] == "table":
                self.assertIs(is_answer(net, ("list", told[1:])), False)
                for value in (("list", LINES), ("list", ()), told[:2], (*told, {}), list(told), ("list", *told[1:])):
                    self.assertIs(is_answer(net, value), False)
            else:
                for value in (("table", told[1]), ("table", {}, {}), (*told, ()), list(told), ("list", told[1], {}),
                              ("list", told[1][:-1]), ("list", list(told[1])), told[1], ("lists", told[1])):
                    self.assertIs(is_answer(net, value), False)

    def test_any_list_is_right(self):
        self.assertIs(is_answer(HARD, ("list", LINES)), True)
        self.assertIs(is_answer(HARD, ("list", LINES[:2])), False)
        self.assertIs(is_answer(DAY, ("list", LINES)), False)

    def test_returned_rows_are_rows(self):
        for net in nets(100):
            told = answer(net)
            rows = [row for row, _ in told[1]] if told[0] == "list" else rows_of(*told[1:])
            self.assertTrue(all(is_row(net, row) for row in rows))

    def test_a_spoilt_line(self):
        row, why = LINES[1]
        for line in ((("bound", "land", "board", 3), why), (row, ("bound", "walk")), (row, None), None, (row, why, 0)):
            self.assertIs(is_answer(HARD, ("list", (LINES[0], line, LINES[2]))), False)


class NumbersTest(unittest.TestCase):
    def test_tightest_and_needed_wait(self):
        for net in (DAY, CHAIN, BARE, *nets(40)):
            table = closure(net)
            if table is None:
                continue
            for pair in table[0]:
                self.assertEqual(tightest(net, *pair), table[0][pair])
            for event in ("dawn", *net.events):
                for work in net.works:
                    wait = needed_wait(net, event, work)
                    if net.work_of(event) == work:
                        self.assertIsNone(wait)
                    else:
                        self.assertEqual(wait, table[1][(event, work)])

    def test_errors_in_their_order(self):
        for net in (DAY, HARD):
            for value in ("x", "fly", None, 1, ["land"], (), True):
                for ask in (lambda: tightest(net, value, "y"), lambda: tightest(net, "land", value),
                            lambda: needed_wait(net, value, "y")):
                    with self.assertRaises(UnknownName) as caught:
                        ask()
                    self.assertEqual(caught.exception.wanted, value)
            for value in ("x", "land", None, 1, ["fly"], (), True):
                with self.assertRaises(UnknownName) as caught:
                    needed_wait(net, "land", value)
                self.assertEqual(caught.exception.wanted, value)
            for event in ("dawn", "land", "off"):
                with self.assertRaises(InvalidOperation):
                    tightest(net, event, event)
        for ask in (lambda: tightest(HARD, "dawn", "land"), lambda: needed_wait(HARD, "dawn", "fly"),
                    lambda: needed_wait(HARD, "land", "fly")):
            with self.assertRaises(InvalidOperation):
                ask()


class StatementsTest(unittest.TestCase):
    def test_a_table_exactly_if_some_way_keeps_the_net(self):
        kinds = {}
        for net in nets(400, horizon=5):
            kinds[(is_winnable(net), has_times(net))] = True
            self.assertIs(is_safe(net), is_winnable(net))
        self.assertEqual(set(kinds), {(True, True), (False, True), (False, False)})

    def test_who_walks_a_table_keeps_it(self):
        walked = 0
        for net in nets(150) + [crossed_net(seed, works=3, bounds=2) for seed in (*CLOSED_LATE[:6], *CLOSED_BOTH[:6])]:
            table = closure(net)
            if table is None:
                continue
            way = walk_of(net, *table)
            for course in each_course(net):
                told = play(net, way, course)
                walked += 1
                self.assertEqual((told.broken, told.is_whole), ((), True))
                for row in rows_of(*table):
                    self.assertIs(told.is_broken(row), False)
                for event, tick in told.times.items():
                    self.assertTrue(-table[0][(event, "dawn")] <= tick <= table[0][("dawn", event)])
        self.assertGreater(walked, 100)

    def test_easier_nets_are_safe_too(self):
        for seed, net in enumerate(nets(150)):
            if not is_safe(net):
                continue
            for name in net.bounds:
                self.assertIs(is_safe(net.without(name)), True)
            for event, last in net.lasts.items():
                self.assertIs(is_safe(net.with_lasts({event: last + 2})), True)
            for work, (_, _, least, most, look) in net.works.items():
                for length in range(least, most + 1):
                    self.assertIs(is_safe(net.with_lengths({work: (length, length)})), True)
                    self.assertIs(is_safe(net.with_lengths({work: (least, length)})), True)
                self.assertIs(is_safe(net.with_looks({work: max(look - 1, 0)})), True)

    def test_a_list_stays_one_with_later_looks(self):
        later = 0
        for net in nets(300):
            told = answer(net)
            begun = [work[0] for work in net.works.values()]
            if told[0] == "list":
                for work in net.works:
                    if net.works[work][1] not in begun:
                        later += 1
                        slow = net.with_looks({work: net.works[work][4] + 3})
                        self.assertIs(is_list(slow, told[1]), True)
        self.assertGreater(later, 100)

    def test_a_table_that_covers_a_closed_one_need_not_be_closed(self):
        self.assertIs(is_closed(DAY, ({**BOUNDS, ("board", "off"): 14}, WAITS)), True)
        self.assertIs(is_closed(DAY, ({**BOUNDS, ("board", "off"): 9}, WAITS)), False)

    def test_two_nets_with_one_closure(self):
        net = DAY.with_bounds({"more": ("dawn", "off", 55)})
        self.assertNotEqual(net, DAY)
        self.assertTrue(is_same(closure(net), closure(DAY)))

    def test_an_end_that_is_seen_later(self):
        self.assertIs(is_safe(LATE), False)
        self.assertIs(is_safe(LATE.with_looks({"w": 2})), True)

    def test_safe_in_each_course_and_not_in_all(self):
        net = LATE.with_bounds({"near": ("e", "a", 0)}).with_looks({"w": 1})
        self.assertIs(is_safe(net), False)
        for length in range(2, 6):
            self.assertIs(is_safe(net.with_lengths({"w": (length, length)})), True)

    def test_a_net_with_times_need_not_be_safe(self):
        self.assertEqual((has_times(LATE), is_safe(LATE)), (True, False))
        for net in nets():
            if is_safe(net):
                self.assertIs(has_times(net), True)


if __name__ == "__main__":
    unittest.main()
