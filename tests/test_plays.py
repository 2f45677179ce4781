"""Courses, ways and plays: [0.9], [0.10], [0.11], [0.13], [5.1] to [5.3], stage 5."""

import unittest
from itertools import product

from dawnway.errors import (
    InvalidCourse, InvalidNet, InvalidNumber, InvalidOperation, InvalidRow, InvalidWay, TooMany,
)
from dawnway.net.nets import Net
from dawnway.play import plays
from dawnway.play.plays import Play, each_course, first_broken, is_course, play, seen_at
from tests.helpers import (
    BARE, CHAIN, DAY, HARD, LATE, are_keys_ascending, is_same, odd_values, random_net, random_way, shown,
)

COURSE = {"fly": 4, "storm": 6, "taxi": 2, "tow": 2}
ROUNDS = (
    (4, ("land",), ()), (6, ("clear", "gate"), ()), (7, (), ("call",)), (9, ("go",), ()),
)


def told_way(steps, asks):
    """A way that returns what a dict tells for its ticks, and notes what it is asked."""
    def way(tick, seen):
        asks.append((tick, seen))
        return steps.get(tick, ((), None))

    return way


def asked(net, steps, course):
    """The play of a way that returns what a dict tells, and what it was asked."""
    asks = []
    return play(net, told_way(steps, asks), course), asks


class CourseTest(unittest.TestCase):
    def test_is_course(self):
        for value in ({"fly": 10}, {"fly": 30}, {"fly": 11}):
            self.assertIs(is_course(DAY, value), True)
        for value in ({"fly": 9}, {"fly": 31}, {}, {"fly": 10, "x": 1}, {"x": 10}, {"fly": True}, {"fly": "10"},
                      {"fly": None}, {"fly": [10]}, {1: 10}, (), None, [("fly", 10)], {"fly": 10, 1: 2}):
            self.assertIs(is_course(DAY, value), False, value)
        self.assertIs(is_course(CHAIN, dict(reversed(COURSE.items()))), True)
        self.assertIs(is_course(BARE, {}), True)
        self.assertIs(is_course(BARE, ()), False)
        net = Net({"a": 5}, {"w": ("dawn", "a", 1, 2, 0)})
        self.assertEqual([is_course(net, {"w": length}) for length in (1, True, 2, 3)], [True, False, True, False])

    def test_every_value_is_judged(self):
        for value in odd_values():
            self.assertIs(is_course(DAY, value), value == {"fly": 17})
            for wrong in (None, 5, ()):
                with self.assertRaises(InvalidNet):
                    is_course(wrong, value)

    def test_each_course(self):
        told = list(each_course(CHAIN))
        lengths = list(product(range(3, 6), range(2, 7), range(1, 4), range(2, 3)))
        self.assertEqual(told, [dict(zip(CHAIN.works, row)) for row in lengths])
        self.assertTrue(all(are_keys_ascending(course) and is_course(CHAIN, course) for course in told))
        self.assertEqual(list(each_course(BARE)), [{}])

    def test_each_course_is_a_generator(self):
        net = CHAIN.with_lengths({"tow": (1, 10 ** 30)})
        courses = each_course(net)
        first = next(courses)
        first["fly"] = 99
        self.assertEqual(next(courses), {"fly": 3, "storm": 2, "taxi": 1, "tow": 2})
        wrong = each_course(None)
        with self.assertRaises(InvalidNet):
            next(wrong)


class SeenAtTest(unittest.TestCase):
    def test_looks(self):
        times = {"land": 3, "clear": 3, "gate": 4, "call": 5, "go": 7}
        self.assertEqual(seen_at(CHAIN, times, 2), ())
        self.assertEqual(seen_at(CHAIN, times, 4), ((3, "land"),))
        self.assertEqual(seen_at(CHAIN, times, 5), ((3, "land"), (5, "call"), (5, "clear"), (5, "gate")))
        self.assertEqual(seen_at(CHAIN, times, 10 ** 34)[-1], (7, "go"))
        self.assertEqual(seen_at(CHAIN, {"clear": 10 ** 34}, 10 ** 34), ())
        self.assertEqual(seen_at(CHAIN, {}, 0), ())

    def test_errors(self):
        with self.assertRaises(InvalidNet):
            seen_at(None, None, None)
        for value in (None, (), [], {"dawn": 0}, {"x": 1}, {"fly": 1}, {"land": -1}, {"land": True}, {"land": None},
                      {"land": 10 ** 34 + 1}, {1: 1}, {"land": [1]}):
            with self.assertRaises(InvalidOperation):
                seen_at(CHAIN, value, None)
        for value in (-1, None, True, "1", 10 ** 34 + 1, [1]):
            with self.assertRaises(InvalidNumber) as caught:
                seen_at(CHAIN, {"land": 3}, value)
            self.assertEqual(caught.exception.given, value)


class AsksTest(unittest.TestCase):
    def test_constant(self):
        self.assertEqual(plays.MAX_ASKS, 2000)

    def test_dawn_and_each_end_that_is_seen(self):
        told, asks = asked(CHAIN, {}, COURSE)
        seen = ((4, "land"), (7, "gate"), (8, "clear"))
        self.assertEqual(asks, [(0, ()), (4, seen[:1]), (7, seen[:2]), (8, seen)])
        self.assertEqual(told.rounds, ((4, ("land",), ()), (6, ("clear", "gate"), ())))
        self.assertIs(told.is_whole, False)

    def test_again(self):
        told, asks = asked(CHAIN, {0: ((), 2), 2: ((), 3), 3: ((), 7)}, COURSE)
        # The ask at the tick 4, for an end, takes the place of the one told for the tick 7.
        self.assertEqual([tick for tick, _ in asks], [0, 2, 3, 4, 7, 8])
        told, asks = asked(CHAIN, {0: ((), 4), 4: ((), 9), 8: ((), 10 ** 32)}, COURSE)
        self.assertEqual([tick for tick, _ in asks], [0, 4, 7, 8, 10 ** 32])
        told, asks = asked(CHAIN, {0: ((), 1), 8: ((), 9)}, COURSE)
        self.assertEqual([tick for tick, _ in asks], [0, 1, 4, 7, 8, 9])

    def test_deeds_and_what_they_begin(self):
        told, asks = asked(CHAIN, {7: (("call",), None)}, COURSE)
        self.assertEqual(told.rounds, ROUNDS)
        self.assertEqual(asks[-1], (8, ((4, "land"), (7, "call"), (7, "gate"), (8, "clear"))))
        self.assertEqual([tick for tick, _ in asks], [0, 4, 7, 8])
        self.assertIs(told.is_whole, True)

    def test_not_any_more_when_all_events_have_come(self):
        told, asks = asked(CHAIN, {0: (("call",), None)}, {**COURSE, "storm": 6})
        # The last ends come at the tick 6, seen two ticks and one tick late: nobody asks then.
        self.assertEqual([tick for tick, _ in asks], [0, 2, 4])
        self.assertIs(told.is_whole, True)
        told, asks = asked(BARE, {0: (("a", "b", "c"), 5)}, {})
        self.assertEqual([tick for tick, _ in asks], [0])
        told, asks = asked(CHAIN, {0: (("call",), None), 4: ((), 5), 5: ((), 6)}, COURSE)
        self.assertEqual([tick for tick, _ in asks], [0, 2, 4, 5])

    def test_several_ends_at_one_tick_ask_once(self):
        net = Net({"a": 9, "b": 9, "c": 9}, {"v": ("dawn", "a", 2, 4, 1), "w": ("dawn", "b", 3, 3, 0)})
        told, asks = asked(net, {3: (("c",), None)}, {"v": 2, "w": 3})
        self.assertEqual(asks, [(0, ()), (3, ((3, "a"), (3, "b")))])
        self.assertEqual(told.rounds, ((2, ("a",), ()), (3, ("b",), ("c",))))

    def test_a_deed_of_the_tick_is_not_seen_then(self):
        told, asks = asked(BARE, {0: (("a",), 1), 1: (("c",), 2), 2: (("b",), None)}, {})
        self.assertEqual(asks, [(0, ()), (1, ((0, "a"),)), (2, ((0, "a"), (1, "c")))])

    def test_a_work_begins_by_an_end(self):
        told, _ = asked(CHAIN, {}, {**COURSE, "fly": 5, "taxi": 3})
        self.assertEqual(told.times, {"clear": 6, "gate": 8, "land": 5})

    def test_a_play_that_stays_without_deeds(self):
        told, asks = asked(BARE, {}, {})
        self.assertEqual((told.rounds, told.times, told.is_whole, len(told)), ((), {}, False, 0))
        self.assertEqual(asks, [(0, ())])

    def test_far_ticks(self):
        net = Net({"a": 10 ** 30, "e": 10 ** 30}, {"w": ("a", "e", 10 ** 30, 10 ** 30, 20)})
        told, asks = asked(net, {0: ((), 10 ** 32), 10 ** 32: (("a",), None)}, {"w": 10 ** 30})
        self.assertEqual(told.times, {"a": 10 ** 32, "e": 10 ** 32 + 10 ** 30})

    def test_two_thousand_asks(self):
        count = []

        def steady(tick, seen):
            count.append(tick)
            return (), tick + 1

        with self.assertRaises(TooMany) as caught:
            play(BARE, steady, {})
        self.assertEqual((caught.exception.limit, len(count)), (2000, 2000))
        told = play(BARE, lambda tick, seen: (("a",), None) if tick == 1999 else ((), tick + 1), {})
        self.assertEqual(told.times, {"a": 1999})
        with self.assertRaises(TooMany):
            play(BARE, lambda tick, seen: (("a",), 2000) if tick == 1999 else ((), tick + 1), {})
        told = play(BARE, lambda tick, seen: (("a", "b", "c"), 2000) if tick == 1999 else ((), tick + 1), {})
        self.assertIs(told.is_whole, True)


class WrongWayTest(unittest.TestCase):
    def test_what_a_way_may_not_return(self):
        wrong = (
            None, (), ((),), ((), None, None), [(), None], "ab", 5, True, {}, ((), 0), ((), -1), ((), True),
            ((), "1"), ((), (1,)), ((), 10 ** 32 + 1), ((), False), (None, None), ([], None), (["call"], None),
            (("land",), None), (("dawn",), None), (("x",), None), (("fly",), None), ("call", None), ((None,), None),
            ((["call"],), None), (("call", "call"), None), ({"call": 1}, None), ((1,), None), ({}, None),
        )
        for step in wrong:
            # Only at dawn: what is returned later is right, whatever came of the first step.
            with self.assertRaises(InvalidWay, msg=step):
                play(CHAIN, told_way({0: step}, []), COURSE)
        for steps in ({0: (("b", "a"), None)}, {0: (("a",), 1), 1: (("a",), None)}, {0: ((), 5), 5: ((), 5)},
                      {0: (("a",), 1), 1: (("a", "b"), 2)}):
            with self.assertRaises(InvalidWay):
                play(BARE, told_way(steps, []), {})
        for again in (10 ** 32, 10 ** 32 - 1):
            self.assertEqual(play(BARE, told_way({0: ((), again)}, []), {}).rounds, ())

    def test_wrong_only_later(self):
        asks = []
        with self.assertRaises(InvalidWay):
            play(CHAIN, told_way({4: ((), 4)}, asks), COURSE)
        self.assertEqual([tick for tick, _ in asks], [0, 4])

    def test_a_way_that_raises(self):
        def way(tick, seen):
            raise ZeroDivisionError("mine")

        for ask in (lambda: play(DAY, way, {"fly": 17}), lambda: first_broken(DAY, way, ({"fly": 17},))):
            with self.assertRaises(ZeroDivisionError):
                ask()

    def test_what_is_no_way(self):
        for value in (None, 5, 0, True, False, "way", (), [], {}, DAY, Play(BARE, {}, ())):
            with self.assertRaises(InvalidWay):
                play(DAY, value, None)
            with self.assertRaises(InvalidWay):
                first_broken(DAY, value, None)

    def test_errors_in_their_order(self):
        for value in (None, 5, "net", (), {}):
            for ask in (play, first_broken):
                with self.assertRaises(InvalidNet):
                    ask(value, None, None)
        for value in (None, {}, {"fly": 9}, {"fly": 31}, (), {"fly": True}):
            with self.assertRaises(InvalidCourse):
                play(DAY, lambda tick, seen: None, value)

    def test_the_course_is_the_one_that_was_passed(self):
        course = {"fly": 17}

        def way(tick, seen):
            course["fly"] = 11
            return (), None

        self.assertEqual(play(DAY, way, course).times, {"land": 17})


class PlayTest(unittest.TestCase):
    def test_properties(self):
        told = Play(CHAIN, COURSE, ROUNDS)
        self.assertEqual((told.net, told.course, told.rounds), (CHAIN, COURSE, ROUNDS))
        self.assertEqual(told.times, {"call": 7, "clear": 6, "gate": 6, "go": 9, "land": 4})
        self.assertTrue(are_keys_ascending([told.course, told.times]))
        self.assertEqual((told.broken, told.is_whole, len(told)), ((), True, 4))
        self.assertEqual(str(told), "play of 5 events, 0 broken")

    def test_seen_to(self):
        told = Play(CHAIN, COURSE, ROUNDS)
        self.assertEqual(told.seen_to(7), ((4, "land"), (7, "call"), (7, "gate")))
        self.assertEqual(told.seen_to(8), ((4, "land"), (7, "call"), (7, "gate"), (8, "clear")))
        self.assertEqual(told.seen_to(0), ())
        for value in (-1, None, True, "1", 10 ** 34 + 1, [1]):
            with self.assertRaises(InvalidNumber) as caught:
                told.seen_to(value)
            self.assertEqual(caught.exception.given, value)

    def test_rounds_with_one_thing_wrong(self):
        early, both, call, last = ROUNDS
        wrong = (
            None, [], "x", {}, list(ROUNDS), ROUNDS[1:], ROUNDS[:3], ROUNDS[::-1], (*ROUNDS, ROUNDS[-1]), (None,),
            (early, call, both, last), (early, both, last), ((5, ("land",), ()), *ROUNDS[1:]),
            ((4, ("land",)), *ROUNDS[1:]), ([4, ("land",), ()], *ROUNDS[1:]), ((4, ["land"], ()), *ROUNDS[1:]),
            ((4, ("land",), []), *ROUNDS[1:]), ((4, ("land",), None), *ROUNDS[1:]), ((4, (), ("land",)), *ROUNDS[1:]), ((4, ("land",), (), ()), *ROUNDS[1:]),
            (early, (6, ("gate", "clear"), ()), call, last), (early, (6, ("clear",), ()), call, last),
            (early, (6, ("clear",), ()), (6, ("gate",), ()), call, last), (*ROUNDS, (10, (), ())),
            (early, both, (7, ("call",), ()), last), (early, both, (7, (), ("call", "call")), last),
            (early, both, (7, (), ("go",)), last), (early, both, (7, (), ("x",)), last),
            (early, both, (7, (), (["call"],)), last), (early, both, (7, (), ("call", "dawn")), last),
            (early, both, (7, (), ("call",)), (8, (), ("call",)), last), ((0, (), ("dawn",)), *ROUNDS), (early, both, (7, (), "call"), last),
            (early, both, call, (9, ("go",), ("call",))), (early, both, call, (10, ("go",), ())),
            ((4, ("land", "x"), ()), *ROUNDS[1:]), ((4, None, ()), *ROUNDS[1:]), ((4, (), ()), *ROUNDS[1:]),
        )
        for rounds in wrong:
            with self.assertRaises(InvalidOperation, msg=rounds):
                Play(CHAIN, COURSE, rounds)

    def test_true_is_no_tick(self):
        net = Net({"a": 3, "e": 3}, {"w": ("dawn", "e", 1, 1, 0)})
        self.assertEqual(Play(net, {"w": 1}, ((1, ("e",), ("a",)),)).times, {"a": 1, "e": 1})
        with self.assertRaises(InvalidOperation):
            Play(net, {"w": 1}, ((True, ("e",), ("a",)),))

    def test_deeds_at_any_ticks(self):
        for tick in (0, 1, 5, 10 ** 30, 10 ** 34):
            self.assertEqual(Play(BARE, {}, ((tick, (), ("b",)),)).times, {"b": tick})
        for tick in (-1, 10 ** 34 + 1, None, "1"):
            with self.assertRaises(InvalidOperation):
                Play(BARE, {}, ((tick, (), ("b",)),))

    def test_ends_behind_the_last_tick_of_all(self):
        net = Net({"a": 3, "e": 3}, {"w": ("a", "e", 1, 1, 0)})
        with self.assertRaises(InvalidOperation):
            Play(net, {"w": 1}, ((10 ** 34, (), ("a",)), (10 ** 34 + 1, ("e",), ())))
        with self.assertRaises(InvalidOperation):
            Play(net, {"w": 1}, ((10 ** 34, (), ("a",)),))

    def test_errors_in_their_order(self):
        for value in (None, 5, "net", (), {}):
            with self.assertRaises(InvalidNet):
                Play(value, None, None)
        for value in (None, {}, {"fly": 9}, (), {"fly": True}):
            with self.assertRaises(InvalidCourse):
                Play(DAY, value, None)
        for value in odd_values():
            if value != ():
                with self.assertRaises(InvalidOperation):
                    Play(BARE, {}, value)

    def test_equality(self):
        told = Play(CHAIN, COURSE, ROUNDS)
        self.assertTrue(told == Play(CHAIN, dict(reversed(COURSE.items())), ROUNDS))
        self.assertTrue(told != Play(CHAIN.with_lasts({"go": 41}), COURSE, ROUNDS))
        self.assertTrue(told != Play(CHAIN, {**COURSE, "tow": 2}, (*ROUNDS[:2], (8, (), ("call",)), (10, ("go",), ()))))
        one, other = Play(BARE, {}, ()), Play(BARE, {}, ((0, (), ("a",)),))
        self.assertTrue(one != other and not one == other)
        for value in odd_values():
            self.assertIs(told == value, False)
        net = Net({"a": 3, "e": 3}, {"w": ("a", "e", 1, 2, 0)})
        self.assertTrue(Play(net, {"w": 1}, ()) != Play(net, {"w": 2}, ()))

    def test_no_iteration(self):
        with self.assertRaises(TypeError):
            iter(Play(CHAIN, COURSE, ROUNDS))

    def test_nothing_is_shared(self):
        course = dict(COURSE)
        told = Play(CHAIN, course, ROUNDS)
        before = shown(told)
        course.clear()
        for part in (told.course, told.times):
            part.clear()
        self.assertEqual(shown(told), before)
        self.assertEqual(told.times["call"], 7)
        with self.assertRaises(AttributeError):
            told.rounds = ()

    def test_a_play_is_one_of_its_rounds(self):
        for seed in range(80):
            net = random_net(seed, works=1 + seed % 3)
            for number, course in enumerate(list(each_course(net))[:4]):
                told = play(net, random_way(net, seed + number, 4), course)
                self.assertEqual(told, Play(net, course, told.rounds))
                self.assertTrue(are_keys_ascending([told.course, told.times]))
                times = {event: tick for tick, ends, deeds in told.rounds for event in (*ends, *deeds)}
                self.assertTrue(is_same(told.times, dict(sorted(times.items()))))
                for begin, end, *_ in net.works.values():
                    if begin == "dawn" or begin in times:
                        self.assertEqual(times[end] - times.get(begin, 0), course[net.work_of(end)])


class BrokenTest(unittest.TestCase):
    def test_bounds(self):
        told = Play(CHAIN, COURSE, ROUNDS)
        for one, other, apart in (("land", "gate", 2), ("gate", "land", -2), ("call", "go", 2), ("dawn", "call", 7),
                                  ("call", "dawn", -7), ("clear", "gate", 0), ("call", "call", 0), ("dawn", "dawn", 0)):
            self.assertIs(told.is_broken(("bound", one, other, apart)), False)
            self.assertIs(told.is_broken(("bound", one, other, apart - 1)), True)

    def test_bounds_of_events_that_do_not_come(self):
        told = Play(CHAIN, COURSE, ROUNDS[:2])
        for one, other in (("call", "go"), ("dawn", "call"), ("call", "dawn"), ("go", "land"), ("call", "call")):
            self.assertIs(told.is_broken(("bound", one, other, 10 ** 39)), True)

    def test_words_in_the_order_of_the_told_ones(self):
        broken = (
            ("bound", "meet"), ("bound", "wait"), ("last", "call"), ("last", "go"), ("begin", "call"), ("begin", "go"),
            ("most", "tow"), ("least", "tow"),
        )
        told = Play(CHAIN, COURSE, ROUNDS[:2])
        self.assertEqual(told.broken, broken)
        self.assertEqual(str(told), "play of 3 events, 8 broken")
        late = Play(CHAIN, COURSE, (*ROUNDS[:2], (40, (), ("call",)), (42, ("go",), ())))
        self.assertEqual(late.broken, (("bound", "meet"), ("last", "call"), ("last", "go")))

    def test_waits(self):
        # The flight begins at 0, ends at `length`, and is seen at once; the deed comes at 12.
        for length, wait, broken in ((10, 12, False), (10, 13, False), (10, 35, False), (12, 30, False), (13, 12, False),
                                     (13, 13, True), (20, 12, False), (20, 13, True), (30, 13, True), (30, 12, False)):
            told = Play(DAY, {"fly": length}, tuple(sorted([(12, ("land",) if length == 12 else (), ("board",))] + (
                [] if length == 12 else [(length, ("land",), ())]))))
            self.assertIs(told.is_broken(("wait", "board", "fly", wait)), broken, (length, wait))

    def test_waits_for_ends_that_are_seen_late(self):
        def told(tick, length):
            rounds = {length: [["e"], []]}
            rounds.setdefault(tick, [[], []])[1].append("a")
            return Play(LATE, {"w": length}, tuple((at, tuple(e), tuple(d)) for at, (e, d) in sorted(rounds.items())))

        for tick, length, broken in ((5, 2, False), (4, 2, True), (6, 3, False), (5, 3, True), (8, 4, False), (7, 4, False),
                                     (6, 4, True), (8, 5, True), (9, 5, False), (7, 5, True)):
            self.assertIs(told(tick, length).is_broken(("wait", "a", "w", 9)), broken, (tick, length))

    def test_waits_of_dawn_and_of_other_ends(self):
        told = Play(CHAIN, COURSE, ROUNDS)
        self.assertIs(told.is_broken(("wait", "dawn", "fly", 0)), False)
        self.assertIs(told.is_broken(("wait", "dawn", "fly", 1)), True)
        self.assertIs(told.is_broken(("wait", "gate", "fly", 6)), False)
        self.assertIs(told.is_broken(("wait", "gate", "fly", 7)), False)
        self.assertIs(told.is_broken(("wait", "gate", "storm", 7)), True)
        self.assertIs(told.is_broken(("wait", "gate", "storm", 6)), False)
        self.assertIs(told.is_broken(("wait", "land", "taxi", 0)), False)
        self.assertIs(told.is_broken(("wait", "land", "taxi", 1)), True)

    def test_waits_of_events_that_do_not_come(self):
        told = Play(CHAIN, COURSE, ROUNDS[:2])
        self.assertIs(told.is_broken(("wait", "call", "fly", -5)), True)
        self.assertIs(told.is_broken(("wait", "gate", "tow", -5)), True)
        self.assertIs(told.is_broken(("wait", "dawn", "storm", -5)), False)

    def test_what_is_no_row(self):
        told = Play(CHAIN, COURSE, ROUNDS)
        for value in (*odd_values(), ("wait", "land", "fly", 1), ("bound", "land", "fly", 1), ("bound", "land", "go", True)):
            with self.assertRaises(InvalidRow):
                told.is_broken(value)


class FirstBrokenTest(unittest.TestCase):
    def test_first_of_the_courses(self):
        way = told_way({0: ((), 5), 5: (("board",), 15), 15: (("off",), None)}, [])
        courses = tuple(each_course(DAY))
        self.assertEqual(first_broken(DAY, way, courses), {"fly": 10})
        self.assertEqual(first_broken(DAY, way, courses[::-1]), {"fly": 30})
        self.assertIsNone(first_broken(DAY, way, ()))

        def good(tick, seen):
            landed = dict((event, at) for at, event in seen).get("land")
            if landed is None:
                return (), None
            if tick < landed + 5:
                return (), landed + 5
            return (("board",), landed + 15) if tick == landed + 5 else (("off",), None)

        self.assertIsNone(first_broken(DAY, good, courses))
        late = tuple(course for course in courses if course["fly"] != 12)
        self.assertIsNone(first_broken(DAY, good, late))
        self.assertEqual(first_broken(HARD, good, late[3:]), {"fly": 14})

    def test_it_shares_nothing(self):
        courses = ({"fly": 17},)
        found = first_broken(DAY, lambda tick, seen: ((), None), courses)
        found["fly"] = 18
        self.assertEqual(courses, ({"fly": 17},))

    def test_a_returned_course_has_ascending_keys(self):
        course = dict(reversed(COURSE.items()))
        self.assertEqual(list(first_broken(CHAIN, lambda tick, seen: ((), None), (course,))), sorted(COURSE))

    def test_errors(self):
        for value in (None, {}, [], {"fly": 17}, ({"fly": 9},), ({"fly": 17}, None), [{"fly": 17}], "x", 5):
            with self.assertRaises(InvalidCourse):
                first_broken(DAY, lambda tick, seen: None, value)
        with self.assertRaises(InvalidWay):
            first_broken(DAY, lambda tick, seen: None, ({"fly": 17},))


class StatementsTest(unittest.TestCase):
    def test_what_looks_the_same_is_done_the_same(self):
        compared = 0
        for seed in range(40):
            net = random_net(seed, works=2, look=2)
            way = random_way(net, seed, 5)
            told = [play(net, way, course) for course in each_course(net)]
            for one in told:
                for other in told:
                    for tick in range(8):
                        ends = [[pair for pair in p.seen_to(tick) if pair[1] in net.ends] for p in (one, other)]
                        if ends[0] == ends[1]:
                            compared += one is not other
                            deeds = [{e: t for e, t in p.times.items() if e in net.deeds and t <= tick} for p in (one, other)]
                            self.assertEqual(deeds[0], deeds[1])
        self.assertGreater(compared, 100)


if __name__ == "__main__":
    unittest.main()
