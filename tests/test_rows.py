"""Rows, rules and lists: [0.12], [0.14], [0.15], [0.16], [6.1] to [6.3], stage 6."""

import unittest

from dawnway.errors import InvalidNet, InvalidOperation, InvalidRow
from dawnway.net.nets import Net
from dawnway.play.plays import each_course, is_course, play
from dawnway.rule import rows
from dawnway.rule.rows import covers, is_list, is_row, is_told, list_fault, made, used_lines
from dawnway.rule.tables import answer
from tests.helpers import CHAIN, DAY, HARD, LATE, LINES, crossed_net, odd_values, random_net, random_way

FAR = 10 ** 40 - 1


def net_by(seed):
    """A small net, by turns of all sorts and such that works cross each other."""
    if seed % 2 == 0:
        return random_net(seed, events=3 + seed % 4 // 2, works=1 + seed % 4 // 2, bounds=3)
    return crossed_net(seed, works=2, bounds=2 + seed % 4 // 2, horizon=7, longest=3)


class RowTest(unittest.TestCase):
    def test_constant(self):
        self.assertEqual(rows.RULES, ("joined", "early", "first", "late", "both", "sure"))

    def test_rows(self):
        right = (
            ("bound", "land", "gate", 3), ("bound", "gate", "gate", -1), ("bound", "dawn", "dawn", 0),
            ("bound", "dawn", "call", FAR), ("bound", "call", "dawn", -FAR), ("wait", "dawn", "fly", 3),
            ("wait", "gate", "fly", -3), ("wait", "call", "storm", FAR), ("wait", "land", "taxi", 0),
        )
        for value in right:
            self.assertIs(is_row(CHAIN, value), True, value)
        wrong = (
            ("bound", "land", "gate"), ("bound", "land", "gate", 3, 3), ["bound", "land", "gate", 3],
            ("bound", "land", "fly", 3), ("bound", "x", "land", 3), ("bound", "land", "gate", True),
            ("bound", "land", "gate", None), ("bound", "land", "gate", FAR + 1), ("bound", "land", "gate", -FAR - 1),
            ("bound", None, "gate", 3), ("bound", ["land"], "gate", 3), ("bound", "land", ("gate",), 3),
            ("wait", "land", "fly", 3), ("wait", "gate", "taxi", 3), ("wait", "gate", "land", 3), ("wait", "fly", "taxi", 3),
            ("wait", "gate", "x", 3), ("wait", "gate", "fly", False), ("wait", "gate", None, 3), ("wait", 1, "fly", 3),
            ("waits", "gate", "fly", 3), (None, "gate", "fly", 3), ("last", "gate"), ("wait", "gate", ["fly"], 3),
        )
        for value in wrong:
            self.assertIs(is_row(CHAIN, value), False, value)

    def test_a_work_called_like_an_event(self):
        net = Net({"a": 5, "b": 5}, {"a": ("dawn", "b", 1, 2, 0)})
        self.assertEqual([is_row(net, ("wait", *rest, 1)) for rest in (("a", "a"), ("b", "a"), ("a", "b"))], [True, False, False])

    def test_told_words(self):
        for net in (CHAIN, DAY, HARD):
            for word in net.told:
                self.assertIs(is_told(net, word), True)
                self.assertIs(is_row(net, net.row(word)), True)
                self.assertIs(is_told(net, list(word)), False)
        for value in (("bound", "fly"), ("last", "dawn"), ("most", "land"), ("joined", 0), ("bound", "meet", "x"), "meet",
                      ("bound",), ("Bound", "meet"), ("bound", ["meet"])):
            self.assertIs(is_told(CHAIN, value), False, value)

    def test_every_value_is_judged(self):
        for value in odd_values():
            self.assertIs(is_row(CHAIN, value), False)
            self.assertIs(is_told(CHAIN, value), False)
            self.assertIs(is_list(CHAIN, value), False)
            self.assertIs(is_list(CHAIN, (value,)), False)
            self.assertIs(is_list(CHAIN, ((("bound", "land", "land", 0), value),)), False)
            right = isinstance(value, int) and value is not False and value == 0
            self.assertIs(is_list(HARD, (*LINES[:2], (LINES[2][0], ("joined", 1, value)))), right)
            for judge in (is_row, is_told, is_list):
                if not isinstance(value, Net):
                    with self.assertRaises(InvalidNet):
                        judge(value, None)


class CoversTest(unittest.TestCase):
    def test_bounds(self):
        row = ("bound", "land", "gate", 3)
        for other, right in ((row, True), (("bound", "land", "gate", 4), True), (("bound", "land", "gate", 2), False),
                             (("bound", "gate", "land", 4), False), (("bound", "land", "call", 4), False),
                             (("wait", "gate", "fly", 3), False)):
            self.assertIs(covers(CHAIN, row, other), right)

    def test_waits(self):
        row = ("wait", "gate", "fly", 3)
        for other, right in ((row, True), (("wait", "gate", "fly", 2), True), (("wait", "gate", "fly", 4), False),
                             (("wait", "call", "fly", 2), False), (("wait", "gate", "storm", 2), False),
                             (("bound", "gate", "land", 3), False)):
            self.assertIs(covers(CHAIN, row, other), right)

    def test_a_work_called_like_an_event(self):
        net = Net({"a": 5, "b": 5}, {"a": ("dawn", "b", 1, 2, 0)})
        self.assertIs(covers(net, ("wait", "dawn", "a", 3), ("bound", "dawn", "a", 3)), False)

    def test_errors(self):
        row = ("bound", "land", "gate", 3)
        with self.assertRaises(InvalidNet):
            covers(None, None, None)
        for value in (None, (), ("wait", "land", "fly", 3), ("bound", "land", "gate", True)):
            with self.assertRaises(InvalidRow):
                covers(CHAIN, value, row)
            with self.assertRaises(InvalidRow):
                covers(CHAIN, row, value)


class MadeTest(unittest.TestCase):
    def check(self, net, rule, row, new, other=None):
        self.assertEqual(made(net, rule, row, other=other), new, (rule, row, other))

    def test_joined(self):
        row = ("bound", "land", "gate", 3)
        self.check(CHAIN, "joined", row, ("bound", "land", "call", 1), ("bound", "gate", "call", -2))
        self.check(CHAIN, "joined", row, ("bound", "land", "land", 2), ("bound", "gate", "land", -1))
        self.check(CHAIN, "joined", row, ("bound", "land", "gate", 2), ("bound", "gate", "gate", -1))
        self.check(CHAIN, "joined", ("bound", "land", "land", 0), ("bound", "land", "gate", 3), row)
        self.check(CHAIN, "joined", row, None, row)
        self.check(CHAIN, "joined", row, None, ("bound", "call", "land", 1))
        self.check(CHAIN, "joined", row, None, ("wait", "gate", "fly", 1))
        self.check(CHAIN, "joined", ("wait", "gate", "fly", 1), None, row)
        self.check(CHAIN, "joined", ("wait", "gate", "fly", 1), None, ("wait", "gate", "fly", 1))

    def test_early(self):
        # The storm is seen two ticks late: what comes at most one tick behind it cannot wait for it.
        self.check(CHAIN, "early", ("bound", "clear", "call", 1), ("bound", "dawn", "call", 3))
        self.check(CHAIN, "early", ("bound", "clear", "call", 2), None)
        self.check(CHAIN, "early", ("bound", "clear", "call", -9), ("bound", "dawn", "call", -7))
        self.check(CHAIN, "early", ("bound", "clear", "dawn", -3), ("bound", "dawn", "dawn", -1))
        self.check(CHAIN, "early", ("bound", "clear", "clear", -3), None)
        self.check(CHAIN, "early", ("bound", "land", "call", -1), ("bound", "dawn", "call", 2))
        self.check(CHAIN, "early", ("bound", "land", "call", 0), None)
        self.check(CHAIN, "early", ("bound", "gate", "land", 0), ("bound", "land", "land", 1))
        self.check(CHAIN, "early", ("bound", "gate", "land", 1), None)
        self.check(CHAIN, "early", ("bound", "call", "land", -1), None)
        self.check(CHAIN, "early", ("bound", "dawn", "land", -1), None)
        self.check(CHAIN, "early", ("wait", "clear", "fly", 1), None)

    def test_first(self):
        self.check(CHAIN, "first", ("bound", "call", "clear", 0), ("wait", "call", "storm", 6))
        self.check(CHAIN, "first", ("bound", "call", "clear", -3), ("wait", "call", "storm", 9))
        self.check(CHAIN, "first", ("bound", "dawn", "clear", 9), ("wait", "dawn", "storm", -3))
        self.check(CHAIN, "first", ("bound", "gate", "go", 2), ("wait", "gate", "tow", 0))
        self.check(CHAIN, "first", ("bound", "clear", "clear", 0), None)
        self.check(CHAIN, "first", ("bound", "clear", "call", 0), None)
        self.check(CHAIN, "first", ("bound", "clear", "dawn", 0), None)
        self.check(CHAIN, "first", ("wait", "call", "storm", 3), None)

    def test_late(self):
        wait = ("wait", "call", "storm", 6)
        self.check(CHAIN, "late", ("bound", "dawn", "call", 4), ("wait", "dawn", "storm", 2), wait)
        self.check(CHAIN, "late", ("bound", "gate", "call", -4), ("wait", "gate", "storm", 10), wait)
        self.check(CHAIN, "late", ("bound", "call", "call", -1), ("wait", "call", "storm", 7), wait)
        self.check(CHAIN, "late", ("bound", "clear", "call", 4), None, wait)
        self.check(CHAIN, "late", ("bound", "call", "gate", 4), None, wait)
        self.check(CHAIN, "late", wait, None, ("bound", "dawn", "call", 4))
        self.check(CHAIN, "late", wait, None, wait)
        self.check(CHAIN, "late", ("bound", "dawn", "call", 4), None, ("bound", "call", "gate", 4))
        self.check(CHAIN, "late", ("bound", "land", "call", 4), ("wait", "land", "storm", 2), wait)

    def test_both(self):
        self.check(CHAIN, "both", ("wait", "gate", "storm", 1), ("wait", "land", "storm", 0))
        self.check(CHAIN, "both", ("wait", "gate", "storm", 9), ("wait", "land", "storm", 8))
        self.check(CHAIN, "both", ("wait", "gate", "storm", 0), None)
        self.check(CHAIN, "both", ("wait", "go", "storm", 5), ("wait", "call", "storm", 3))
        self.check(CHAIN, "both", ("wait", "land", "storm", 5), ("wait", "dawn", "storm", 2))
        # The taxi begins by the end of the flight, for which `land` has no wait.
        self.check(CHAIN, "both", ("wait", "gate", "fly", 5), None)
        self.check(CHAIN, "both", ("wait", "call", "storm", 5), None)
        self.check(CHAIN, "both", ("wait", "dawn", "storm", 5), None)
        self.check(CHAIN, "both", ("bound", "gate", "clear", 5), None)

    def test_sure(self):
        # Two ticks from the least length to the look: a wait of more tells no more.
        self.check(CHAIN, "sure", ("wait", "call", "storm", 3), ("bound", "call", "dawn", -3))
        self.check(CHAIN, "sure", ("wait", "call", "storm", 4), ("bound", "call", "dawn", -4))
        self.check(CHAIN, "sure", ("wait", "call", "storm", 5), ("bound", "call", "dawn", -4))
        self.check(CHAIN, "sure", ("wait", "call", "storm", 99), ("bound", "call", "dawn", -4))
        self.check(CHAIN, "sure", ("wait", "call", "storm", -7), ("bound", "call", "dawn", 7))
        self.check(CHAIN, "sure", ("wait", "dawn", "storm", 1), ("bound", "dawn", "dawn", -1))
        self.check(CHAIN, "sure", ("wait", "call", "taxi", 9), ("bound", "call", "land", -2))
        self.check(CHAIN, "sure", ("bound", "call", "clear", 3), None)

    def test_numbers_that_get_too_long(self):
        self.check(CHAIN, "joined", ("bound", "land", "gate", FAR - 1), ("bound", "land", "call", FAR), ("bound", "gate", "call", 1))
        self.check(CHAIN, "joined", ("bound", "land", "gate", FAR), None, ("bound", "gate", "call", 1))
        self.check(CHAIN, "joined", ("bound", "land", "gate", -FAR), None, ("bound", "gate", "call", -1))
        self.check(CHAIN, "early", ("bound", "clear", "call", -FAR), ("bound", "dawn", "call", 2 - FAR))
        self.check(CHAIN, "first", ("bound", "call", "clear", 6 - FAR), ("wait", "call", "storm", FAR))
        self.check(CHAIN, "first", ("bound", "call", "clear", 5 - FAR), None)
        self.check(CHAIN, "late", ("bound", "gate", "call", -1), None, ("wait", "call", "storm", FAR))
        self.check(CHAIN, "late", ("bound", "gate", "call", 1), None, ("wait", "call", "storm", -FAR))
        self.check(CHAIN, "both", ("wait", "gate", "storm", FAR), ("wait", "land", "storm", FAR - 1))
        self.check(CHAIN, "sure", ("wait", "call", "storm", -FAR), ("bound", "call", "dawn", FAR))

    def test_a_work_called_like_an_event(self):
        net = Net({"a": 5, "b": 5, "c": 5}, {"a": ("dawn", "b", 1, 2, 0), "c": ("dawn", "c", 1, 2, 0)})
        bound, wait = ("bound", "a", "c", 1), ("wait", "dawn", "a", 1)
        self.check(net, "joined", wait, None, bound)
        self.check(net, "joined", bound, None, ("wait", "c", "a", 1))
        self.check(net, "late", ("wait", "dawn", "a", 1), None, ("wait", "a", "c", 1))
        self.check(net, "late", ("bound", "dawn", "a", 1), None, ("bound", "a", "c", 1))

    def test_errors_in_their_order(self):
        bound, wait = ("bound", "gate", "call", 1), ("wait", "call", "storm", 1)
        with self.assertRaises(InvalidNet):
            made(None, None, None)
        for value in (None, "", "Joined", "told", 1, ["joined"], ("joined",), {}, True):
            with self.assertRaises(InvalidOperation):
                made(CHAIN, value, None, other=5)
        for rule in rows.RULES:
            for value in (None, (), ("bound", "x", "call", 1), ("wait", "clear", "storm", 1), 5, "x"):
                with self.assertRaises(InvalidRow):
                    made(CHAIN, rule, value, other=5)
        for rule in ("joined", "late"):
            for value in (None, (), ("bound", "x", "call", 1), 5, list(bound)):
                with self.assertRaises(InvalidRow):
                    made(CHAIN, rule, bound, other=value)
            with self.assertRaises(InvalidRow):
                made(CHAIN, rule, bound)
        for rule in ("early", "first", "both", "sure"):
            for value in (bound, wait, (), 5, False):
                with self.assertRaises(InvalidRow):
                    made(CHAIN, rule, wait, other=value)


class ListTest(unittest.TestCase):
    def fault(self, *lines, net=HARD):
        fault = list_fault(net, lines)
        self.assertIs(is_list(net, lines), fault is None)
        return fault

    def test_right_lists(self):
        self.assertIsNone(self.fault(*LINES))
        self.assertIsNone(self.fault(*LINES, *LINES[:2], (("bound", "land", "land", -1), ("joined", 4, 3))))
        self.assertIsNone(self.fault(LINES[1], LINES[0], (("bound", "board", "board", -1), ("joined", 1, 0))))

    def test_form(self):
        for value in (None, [], list(LINES), "x", 5, {}):
            self.assertEqual(list_fault(HARD, value), ("form", None))
            self.assertIs(is_list(HARD, value), False)
        for line in (None, (), (LINES[0][0],), (*LINES[0], 1), list(LINES[0]), "ab", 5, {}):
            self.assertEqual(self.fault(*LINES[:2], line), (2, "form"))

    def test_rows(self):
        for row in (None, (), "x", ("bound", "land", "x", 1), ("wait", "land", "fly", 1), ("bound", "land", "land", True),
                    ["bound", "land", "land", -1], ("bound", "land", "land", -FAR - 1)):
            self.assertEqual(self.fault(LINES[0], (row, ("joined", 0, 0))), (1, "row"))

    def test_reasons(self):
        row = ("bound", "land", "land", -1)
        wrong = (
            None, (), "joined", ("joined",), ("joined", 1), ("joined", 1, 0, 0), ["joined", 1, 0], ("joined", 2, 0),
            ("joined", 1, 2), ("joined", -1, 0), ("joined", True, False), ("joined", 1, None), ("joined", "1", "0"),
            ("joined", 0, 0), ("first", 0, 1), ("early", 1), ("early", -1), ("early", True), ("late", 0, 1), ("both", 0),
            ("sure", 0), ("told", 0), ("bound", "no"), ("bound", "walk", 0), ("bound", ["walk"]), ("last", "dawn"),
            ("bound", 0), ("joined", (1,), (0,)), ({}, 1), ([], 1, 0), ("bound", "walk", []), (None, 1, 0),
        )
        for why in wrong:
            self.assertEqual(self.fault(*LINES[:2], (row, why)), (2, "why"), why)

    def test_covers(self):
        for number, fault in ((5, None), (4, None), (3, (0, "cover"))):
            line = (("bound", "land", "board", number), ("bound", "soon"))
            self.assertEqual(self.fault(line), fault or ("end", None))
        self.assertEqual(self.fault((("bound", "board", "land", 4), ("bound", "soon"))), (0, "cover"))
        self.assertEqual(self.fault((("wait", "board", "fly", 4), ("bound", "soon"))), (0, "cover"))
        first = LINES[0]
        for number, fault in ((35, ("end", None)), (34, ("end", None)), (-FAR, ("end", None)), (36, (1, "cover"))):
            self.assertEqual(self.fault(first, (("wait", "board", "fly", number), ("first", 0))), fault)
        self.assertEqual(self.fault(*LINES[:2], (("bound", "land", "land", -2), ("joined", 1, 0))), (2, "cover"))
        self.assertEqual(self.fault(*LINES[:2], (("bound", "board", "board", -1), ("joined", 1, 0))), (2, "cover"))

    def test_end(self):
        self.assertEqual(self.fault(), ("end", None))
        self.assertEqual(self.fault(*LINES, LINES[0]), ("end", None))
        self.assertEqual(self.fault(*LINES[:2], (("bound", "land", "land", 0), ("joined", 1, 0))), ("end", None))
        self.assertEqual(self.fault((("bound", "land", "dawn", -10), ("least", "fly"))), ("end", None))

    def test_a_wait_is_no_end(self):
        net = Net({"a": 5, "b": 5}, {"a": ("dawn", "b", 1, 2, 0)})
        line = (("bound", "a", "b", 3), ("bound", "x"))
        self.assertEqual(self.fault(line, (("wait", "a", "a", -1), ("first", 0)), net=net.with_bounds({"x": line[0][1:]})), ("end", None))

    def test_no_rule_but_the_six(self):
        for rule in ("told", "Sure", "", "bound", "last"):
            lines = (LINES[0], (("wait", "board", "fly", 35), ("first", 0)), (("bound", "board", "dawn", -10), (rule, 1)))
            self.assertEqual(self.fault(*lines), (2, "why"))
        self.assertEqual(self.fault(*lines[:2], (lines[2][0], ("sure", 1))), ("end", None))

    def test_first_of_several_faults(self):
        good, bad = LINES[0], (("bound", "x", "x", 1), None)
        self.assertEqual(self.fault(good, None, bad), (1, "form"))
        self.assertEqual(self.fault(good, bad, None), (1, "row"))
        self.assertEqual(self.fault(good, (good[0], None), bad), (1, "why"))
        self.assertEqual(self.fault(good, (LINES[1][0], good[1]), bad), (1, "cover"))
        self.assertEqual(self.fault(good, good, None), (2, "form"))

    def test_all_six_rules_in_one_list(self):
        net = Net({"a": 9, "d": 9, "e": 9, "q": 9}, {"c": ("dawn", "e", 2, 6, 1), "g": ("a", "d", 2, 3, 0)},
                  {"p": ("d", "e", -1), "y": ("e", "q", 0), "z": ("q", "dawn", -3)})
        lines = (
            (("bound", "d", "e", -1), ("bound", "p")),
            (("wait", "d", "c", 7), ("first", 0)),
            (("wait", "a", "c", 5), ("both", 1)),
            (("bound", "a", "dawn", -3), ("sure", 2)),
            (("bound", "e", "q", 0), ("bound", "y")),
            (("bound", "dawn", "q", 2), ("early", 4)),
            (("bound", "q", "dawn", -3), ("bound", "z")),
            (("bound", "dawn", "a", 9), ("last", "a")),
            (("wait", "dawn", "c", -4), ("late", 7, 2)),
            (("bound", "dawn", "dawn", -1), ("joined", 5, 6)),
        )
        self.assertIsNone(self.fault(*lines, net=net))
        self.assertEqual(used_lines(net, lines), (4, 5, 6, 9))

    def test_a_made_number_can_be_of_any_size(self):
        net = Net({"a": 9, "b": 9}, (), {"x": ("a", "b", -FAR), "y": ("b", "a", -FAR)})
        lines = (
            (("bound", "a", "b", -FAR), ("bound", "x")), (("bound", "b", "a", -FAR), ("bound", "y")),
            (("bound", "a", "a", -FAR), ("joined", 0, 1)),
        )
        self.assertIsNone(made(net, "joined", lines[0][0], other=lines[1][0]))
        self.assertIsNone(self.fault(*lines, net=net))
        self.assertIsNone(self.fault(*lines[:2], (("bound", "a", "a", -1), ("joined", 0, 1)), net=net))

    def test_a_long_list(self):
        filler = tuple((("bound", "land", "land", -1 + index), ("joined", 1, 0)) for index in range(3000))
        self.assertIs(is_list(HARD, (*LINES, *filler, LINES[2])), True)

    def test_used_lines(self):
        self.assertEqual(used_lines(HARD, LINES), (0, 1, 2))
        aside = (LINES[0], LINES[0], LINES[1], (("wait", "board", "fly", 35), ("first", 0)),
                 (("bound", "land", "land", -1), ("joined", 2, 1)))
        self.assertEqual(used_lines(HARD, aside), (1, 2, 4))
        for value in (*odd_values(), LINES[:2], list(LINES)):
            with self.assertRaises(InvalidOperation):
                used_lines(HARD, value)
        with self.assertRaises(InvalidNet):
            used_lines(None, LINES)

    def test_spoilt_lines(self):
        spoilt = 0
        for seed in range(300):
            net = net_by(seed)
            told = answer(net)
            if told[0] == "table":
                continue
            lines = told[1]
            self.assertIs(is_list(net, lines), True)
            self.assertEqual(used_lines(net, lines), tuple(range(len(lines))))
            for index, (row, why) in enumerate(lines):
                spoilt += 1
                step = -1 if row[0] == "bound" else 1
                worse = (*lines[:index], ((*row[:3], row[3] + step), why), *lines[index + 1:])
                self.assertEqual(list_fault(net, worse), (index, "cover"))
                self.assertIsNotNone(list_fault(net, (*lines[:index], *lines[index + 1:])))
        self.assertGreater(spoilt, 300)


class RightForWaysTest(unittest.TestCase):
    """[6.1], [6.2]: where a made row is broken, a used one is in a play near it; and no way keeps a net with a list."""

    def courses_near(self, net, course):
        works = list(net.works)
        changes = [{}]
        for one in works:
            for length in net.works[one][2:4]:
                changes.append({one: length})
                changes += [{one: length, other: far} for other in works if other > one for far in net.works[other][2:4]]
        return [{**course, **change} for change in changes]

    def makings(self, net, lines):
        for row, why in lines:
            if isinstance(why[1], int):
                yield row, [lines[index][0] for index in why[1:]]

    def test_made_rows_break_with_used_ones(self):
        followed = 0
        for seed in range(160):
            net = net_by(seed)
            told = answer(net)
            if told[0] == "table":
                continue
            way = random_way(net, seed, 5)
            plays = {str(course): play(net, way, course) for course in each_course(net)}
            for course in each_course(net):
                for row, used in self.makings(net, told[1]):
                    if plays[str(course)].is_broken(row):
                        near = [plays[str(other)] for other in self.courses_near(net, course)]
                        self.assertTrue(any(other.is_broken(row) for other in near for row in used))
                        followed += 1
        self.assertGreater(followed, 100)

    def test_no_way_keeps_a_net_with_a_list(self):
        for seed in range(200):
            net = net_by(seed)
            if answer(net)[0] == "list":
                way = random_way(net, seed, 4)
                self.assertTrue(any(play(net, way, course).broken for course in each_course(net)))

    def test_not_each_row_of_a_list_is_broken(self):
        courses = list(each_course(HARD))
        told = [play(HARD, lambda tick, seen: (("board", "off"), None) if tick == 60 else ((), 60), course) for course in courses]
        self.assertFalse(any(one.is_broken(LINES[0][0]) for one in told))
        self.assertTrue(all(is_course(HARD, one.course) for one in told))

    def test_a_list_need_not_tell_of_each_event(self):
        self.assertFalse(any("off" in row for row, _ in LINES))
        self.assertIs(is_list(LATE, answer(LATE)[1]), True)


if __name__ == "__main__":
    unittest.main()
