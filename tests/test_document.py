"""What the document says over the whole program: [0.1] to [0.6], [0.18], [0.19], [1.3]."""

import inspect
import unittest
from importlib import import_module

from dawnway.errors import InvalidCourse, InvalidNet, InvalidNumber, InvalidTable, UnknownName
from dawnway.live.day import Live, verdicts
from dawnway.mends.lots import cheapest, mended
from dawnway.net.nets import Net
from dawnway.parts.days import Day, net_of
from dawnway.parts.deals import deal_paper, is_deal_paper
from dawnway.parts.hands import crew_by
from dawnway.parts.lanes import lane_by
from dawnway.parts.weather import longest_closing, with_closing
from dawnway.play.plays import each_course, play
from dawnway.rule.rows import is_list
from dawnway.rule.tables import answer, closure, is_answer, is_closed, is_safe
from dawnway.text.formats import read_day, read_list, read_net, read_table, write_day, write_list, write_net, write_table
from dawnway.walk.against import course_against
from dawnway.walk.walks import walk_way, walked
from tests.helpers import (
    BARE, BELT, CREW, DAY, HARD, LANE, LATE, LIVE, PLACED, RULES, RUNWAY, crossed_net, is_winnable, odd_values, random_net,
    random_way, shown,
)
from tests.test_conventions import CALLS, own
from tests.test_interface import CLASSES, FUNCTIONS

FAR = 10 ** 40


def integers_in(value):
    """All integers in a value."""
    if isinstance(value, bool):
        return []
    if isinstance(value, int):
        return [value]
    if isinstance(value, dict):
        return [number for key in value for part in (key, value[key]) for number in integers_in(part)]
    if isinstance(value, (tuple, list)):
        return [number for part in value for number in integers_in(part)]
    return []


def parameters_of(call):
    return list(inspect.signature(call).parameters)


def all_functions():
    return [getattr(import_module(module), name) for module, names in FUNCTIONS.items() for name in names]


class ParametersTest(unittest.TestCase):
    def call(self, function, **changed):
        """Calls with None for all other parameters, in their order."""
        given, named = [], {}
        for name, parameter in inspect.signature(function).parameters.items():
            value = changed.get(name)
            if parameter.kind is inspect.Parameter.KEYWORD_ONLY:
                if name in changed:
                    named[name] = value
            else:
                given.append(value)
        told = function(*given, **named)
        return list(told) if inspect.isgenerator(told) else told

    def test_each_net(self):
        many = 0
        for function in all_functions():
            if parameters_of(function)[0] in ("net", "one"):
                many += 1
                for value in odd_values():
                    if not isinstance(value, Net):
                        with self.assertRaises(InvalidNet, msg=(function, shown(value))):
                            self.call(function, **{parameters_of(function)[0]: value})
        self.assertGreater(many, 60)

    def test_names_ticks_tables_and_courses_behind_the_net(self):
        # Of each function whose second parameter is called so, with a right net ahead of it.
        kinds = {"event": UnknownName, "first": UnknownName, "work": UnknownName, "tick": InvalidNumber, "course": InvalidCourse,
                 "bounds": InvalidTable}
        seen = {}
        for function in all_functions():
            names = parameters_of(function)
            if len(names) > 1 and names[0] == "net" and names[1] in kinds:
                seen[names[1]] = seen.get(names[1], 0) + 1
                net = BARE if function.__module__ == "dawnway.net.least" else DAY
                for value in ["x", -1, (), [], True, 10 ** 59, ("land",), {1: 1}]:
                    with self.assertRaises(kinds[names[1]], msg=(function, value)) as caught:
                        self.call(function, net=net, **{names[1]: value})
                    self.assertIs(type(caught.exception), kinds[names[1]])
        self.assertTrue(all(seen.get(name, 0) > 0 for name in ("event", "first", "work", "tick", "bounds")), seen)

    def test_keyword_parameters_are_passed_by_keyword_alone(self):
        for function in all_functions():
            named = [p.name for p in inspect.signature(function).parameters.values() if p.kind is inspect.Parameter.KEYWORD_ONLY]
            if named:
                places = len(parameters_of(function)) - len(named)
                with self.assertRaises(TypeError):
                    function(*[None] * (places + 1))


class ResultsTest(unittest.TestCase):
    def test_integers_of_at_most_forty_digits(self):
        found = 0
        for call, right, _ in CALLS:
            told = call(*own(right))
            numbers = integers_in(told)
            self.assertTrue(all(-FAR < number < FAR for number in numbers))
            found += len(numbers)
        self.assertGreater(found, 200)

    def test_no_object_is_iterated_over(self):
        for value in (DAY, play(DAY, lambda tick, seen: ((), None), {"fly": 17}), PLACED, CREW, BELT, LANE, RUNWAY, RULES, LIVE):
            for take in (iter, list, tuple, dict, set, sorted):
                with self.assertRaises(TypeError):
                    take(value)

    def test_sequences_are_tuples(self):
        for call, right, _ in CALLS:
            told = call(*own(right))
            if not isinstance(told, list) or "lambda" not in call.__name__:
                self.assertFalse(self.has_list(told), call)

    def has_list(self, value):
        if isinstance(value, list):
            return True
        if isinstance(value, dict):
            return any(self.has_list(key) or self.has_list(value[key]) for key in value)
        return isinstance(value, tuple) and any(self.has_list(part) for part in value)

    def test_each_class_of_the_interface_tells_equality_and_a_text(self):
        for (module, name), methods in CLASSES.items():
            told = vars(getattr(import_module(module), name))
            self.assertIn("__eq__", told)
            self.assertIn("__str__", told, methods)


class MainStatementTest(unittest.TestCase):
    """[0.18]"""

    def nets(self):
        return [DAY, HARD, LATE, *[random_net(seed, events=3, works=seed % 3, bounds=3, horizon=4) for seed in range(25)],
                *[crossed_net(seed) for seed in range(8)]]

    def test_exactly_one_of_both_exists(self):
        kinds = set()
        for net in self.nets():
            told = answer(net)
            kinds.add(told[0])
            self.assertTrue(is_answer(net, told))
            self.assertEqual(told[0] == "table", is_safe(net))
            if net.horizon <= 4:
                self.assertEqual(told[0] == "table", is_winnable(net))
        self.assertEqual(kinds, {"table", "list"})

    def test_the_walk_keeps_the_net(self):
        for net in self.nets():
            table = closure(net)
            if table is not None:
                for course in list(each_course(net))[:30]:
                    self.assertEqual(walked(net, *table, course).broken, ())

    def test_no_way_keeps_a_net_with_a_list(self):
        asked = 0
        for seed, net in enumerate(self.nets()):
            told = answer(net)
            if told[0] == "list":
                for way in (random_way(net, seed, net.horizon), lambda tick, seen: ((), None)):
                    plays = []

                    def counted(tick, seen, way=way, plays=plays):
                        if tick == 0:
                            plays.append(seen)
                        return way(tick, seen)

                    course, word = course_against(net, told[1], counted)
                    self.assertIn(word[0], ("bound", "last"))
                    self.assertIn(word, play(net, way, course).broken)
                    self.assertLessEqual(len(plays), len(told[1]))
                    asked += 1
        self.assertGreater(asked, 20)

    def test_no_way_does_better_than_the_table(self):
        # Whatever way keeps all, in all courses: the table is there, and its walk keeps all, too.
        for seed in range(15):
            net = random_net(seed, events=3, works=1, bounds=2, horizon=4)
            way = random_way(net, seed, 3)
            if all(play(net, way, course).broken == () for course in each_course(net)):
                self.assertTrue(is_safe(net))


class NotTrueTest(unittest.TestCase):
    """[0.19]: nets that show that these are not true."""

    def test_a_way_for_each_course_and_none_for_all(self):
        for course in each_course(LATE):
            self.assertTrue(is_safe(LATE.with_lengths({name: (course[name], course[name]) for name in course})))
        self.assertFalse(is_safe(LATE))

    def test_kept_with_the_greatest_and_the_least_lengths_and_not_in_between(self):
        net = Net({"e": 5, "f": 5}, {"v": ("dawn", "e", 1, 2, 0), "w": ("dawn", "f", 1, 2, 0)}, {"ef": ("e", "f", 0), "fe": ("f", "e", 0)})
        for length in (1, 2):
            self.assertTrue(is_safe(net.with_lengths({"v": (length, length), "w": (length, length)})))
        self.assertFalse(is_safe(net.with_lengths({"v": (1, 1), "w": (2, 2)})))

    def test_two_promises_that_can_each_be_kept_with_all_others(self):
        net = Net({"a": 9, "b": 9}, (), {"early": ("dawn", "a", 3), "late": ("b", "dawn", -5), "near": ("a", "b", 1), "far": ("a", "b", 8)})
        self.assertTrue(is_safe(net.without("early")) and is_safe(net.without("late")))
        self.assertFalse(is_safe(net))

    def test_a_list_that_becomes_shorter_by_an_end_that_is_seen_later(self):
        ring = {"b1": ("p", "q", 2), "b2": ("q", "r", 2), "b3": ("r", "s", 2), "b4": ("s", "t", 2), "b5": ("t", "p", -9)}
        net = Net({**LATE.lasts, **{name: 90 for name in "pqrst"}}, {"w": ("dawn", "e", 2, 5, 2)}, {**LATE.bounds, **ring})
        # All five stand in each list, and four rows at least join them: nine lines.
        for name in ring:
            self.assertTrue(is_safe(net.without(name)))
        self.assertFalse(is_safe(net))
        lines = (
            (("bound", "e", "a", 2), ("bound", "near")), (("bound", "dawn", "a", 4), ("early", 0)),
            (("bound", "a", "e", 0), ("bound", "behind")), (("wait", "a", "w", 5), ("first", 2)),
            (("bound", "a", "dawn", -5), ("sure", 3)), (("bound", "dawn", "dawn", -1), ("joined", 1, 4)),
        )
        self.assertFalse(is_list(net, lines))
        self.assertTrue(is_list(net.with_looks({"w": 3}), lines))

    def test_what_can_still_be_kept_becomes_more(self):
        # A house that waits, and does nothing: the flight comes early, and what was at luck is holdable.
        net = Net({"in": 9, "off": 20}, {"fly": ("dawn", "in", 2, 5, 0)}, {"slot": ("dawn", "off", 4), "ready": ("off", "in", 0)})
        self.assertEqual(verdicts(net, 1, ()), {"ready": "luck", "slot": "luck"})
        self.assertEqual(verdicts(net, 3, ((3, "in"),)), {"ready": "sure", "slot": "holdable"})


class DayTest(unittest.TestCase):
    """Parts of the program that work on one day, one behind the other."""

    def setUp(self):
        net = Net(
            {"in1": 30, "out1": 60, "in2": 40, "out2": 60},
            {"fly1": ("dawn", "in1", 10, 20, 0), "fly2": ("dawn", "in2", 15, 25, 2)},
            {"stay1": ("out1", "in1", -8), "stay2": ("out2", "in2", -5), "slot1": ("dawn", "out1", 45), "slot2": ("dawn", "out2", 55)},
        )
        self.day = Day(net, ("s1", "s2"), uses={"u1": ("s1", "in1", "out1", "k"), "u2": ("s2", "in2", "out2", "k")},
                       promises={"slot1": 5, "slot2": 3})

    def test_from_the_deal_to_the_texts(self):
        day = with_closing(self.day, "fog", "s1", 40, 2, 4)
        paper = kind, deal, bounds, waits = deal_paper(day)
        self.assertTrue(kind == "deal" and is_deal_paper(day, paper))
        net = net_of(day, deal)
        self.assertTrue(is_closed(net, (bounds, waits)))
        most, _, _ = longest_closing(day, deal, "fog")
        self.assertGreater(most, 4)
        crew = crew_by(("table", bounds, waits), (("in1", "out1", "s1"), ("in2", "out2", "s2")))
        self.assertEqual(crew.fewest(), 2)
        self.assertEqual(lane_by(("table", bounds, waits), (("in1", 1, 4, 90),)).total, 90)
        self.assertEqual(read_net(write_net(net)), net)
        self.assertEqual(read_table(net, write_table(net, bounds, waits)), (bounds, waits))
        for course in list(each_course(net))[::40]:
            self.assertEqual(play(net, walk_way(net, bounds, waits), course).broken, ())

    def test_from_the_list_to_the_cheapest_mend(self):
        net = self.day.net.with_bounds({"slot1": ("dawn", "out1", 25), "slot2": ("dawn", "out2", 25)})
        kind, lines = answer(net)
        self.assertEqual(kind, "list")
        self.assertEqual(read_list(net, write_list(net, lines)), lines)
        cost, lots = cheapest(net, self.day.promises)
        self.assertEqual((cost, lots), (8, (("slot1", "slot2"),)))
        live = Live(mended(net, lots[0])).later(12, "in1").later(17, "in2")
        self.assertEqual(live.answer()[0], "table")
        text = write_day(live.net, live.tick, live.seen)
        self.assertEqual(read_day(live.net, text), (17, ((12, "in1"), (17, "in2"))))


if __name__ == "__main__":
    unittest.main()
