"""Hands: [13.1] to [13.5], stage 13."""

import random
import unittest
from itertools import combinations

from dawnway.errors import InvalidDay, InvalidNumber, InvalidTable, UnknownName
from dawnway.parts import hands
from dawnway.parts.hands import Crew, crew_by
from dawnway.rule.tables import closure
from tests.helpers import CHAIN, CREW, DAY, are_keys_ascending, is_same, odd_values, shown

FAR = 10 ** 30
FLAT = Crew(((0, 4, "a"), (4, 8, "b"), (2, 6, "a"), (6, 9, "c"), (8, 9, "a")))


def random_crew(seed, many=6):
    """A small crew; its walks keep the triangle."""
    rng = random.Random(seed)
    names = "abc"[:rng.randint(1, 3)]
    walks = {(one, other): rng.randint(0, 4) for one in names for other in names if one != other}
    for mid in names:
        for one, other in list(walks):
            if mid not in (one, other):
                walks[(one, other)] = min(walks[(one, other)], walks[(one, mid)] + walks[(mid, other)])
    tasks = []
    for _ in range(rng.randint(0, many)):
        first = rng.randint(0, 12)
        tasks.append((first, first + rng.randint(1, 5), rng.choice(names)))
    return Crew(tuple(tasks), walks={pair: walk for pair, walk in walks.items() if walk > 0 or rng.random() < 0.5})


def follows(crew, task, other):
    first, _, place = crew.tasks[task]
    _, last, away = crew.tasks[other]
    return first >= last + crew.walks.get((away, place), 0)


def all_rosters(crew):
    """All rosters of a small crew."""
    found = [()]
    for task in sorted(range(len(crew)), key=lambda index: crew.tasks[index]):
        found = [rows for old in found for rows in grown(crew, old, task)]
    return [tuple(sorted(rows)) for rows in found]


def grown(crew, rows, task):
    yield (*rows, (task,))
    for at, row in enumerate(rows):
        if follows(crew, task, row[-1]):
            yield (*rows[:at], (*row, task), *rows[at + 1:])


def all_crowds(crew):
    tasks = range(len(crew))
    return [lot for many in range(len(crew) + 1) for lot in combinations(tasks, many)
            if not any(follows(crew, one, other) for one in lot for other in lot)]


class CrewTest(unittest.TestCase):
    def test_constant(self):
        self.assertEqual(hands.MAX_TASKS, 60)

    def test_properties(self):
        crew = Crew(CREW.tasks, walks={("b", "a"): 2, ("a", "b"): 2})
        self.assertEqual((crew.tasks, crew.walks), (CREW.tasks, {("a", "b"): 2, ("b", "a"): 2}))
        self.assertTrue(are_keys_ascending(crew.walks))
        self.assertEqual((len(crew), str(crew)), (4, "crew of 4 tasks"))
        for empty in ((), {}):
            crew = Crew((), walks=empty)
            self.assertEqual((crew.tasks, crew.walks, len(crew), str(crew)), ((), {}, 0, "crew of 0 tasks"))
        self.assertTrue(is_same((FLAT.tasks, FLAT.walks), (((0, 4, "a"), (4, 8, "b"), (2, 6, "a"), (6, 9, "c"), (8, 9, "a")), {})))

    def wrong(self, *args, **more):
        with self.assertRaises(InvalidDay, msg=(args, more)):
            Crew(*args, **more)

    def test_tasks(self):
        task = (0, 4, "a")
        for value in (*[value for value in odd_values() if value != ()], [task], (task, None), (list(task),), ((0, 4),), ((0, 4, "a", 1),),
                      ((4, 4, "a"),), ((5, 4, "a"),), ((-1, 4, "a"),), ((0, 10 ** 34 + 1, "a"),), ((False, 4, "a"),), ((0, True, "a"),),
                      ((0, "4", "a"),), ((0, 4, "dawn"),), ((0, 4, "A"),), ((0, 4, None),), ((0, 4, ["a"]),), (task,) * 61):
            self.wrong(value)
            self.wrong(value, walks=None)
        self.assertEqual(len(Crew((task,) * 60)), 60)
        self.assertEqual(Crew(((0, 1, "a"), (10 ** 34 - 1, 10 ** 34, "b"))).tasks[1][1], 10 ** 34)

    def test_walks(self):
        tasks = ((0, 4, "a"), (5, 9, "b"))
        for walk in (-1, FAR + 1, True, None, "1", (1,), [1]):
            self.wrong(tasks, walks={("a", "b"): walk})
        for pair in (("a", "a"), ("a", "B"), ("a", "dawn"), ("a",), ("a", "b", "c"), "ab", 1, None, ("a", None), ("a", ("b",)),
                     ("B", "a"), ("dawn", "a"), (None, "a"), (1, "a"), ("", "a")):
            self.wrong(tasks, walks={pair: 0})
        for value in (*[value for value in odd_values() if value != () and value != {} and value != {("a", "b"): 1}], [("a", "b")]):
            self.wrong(tasks, walks=value)
        for walk in (0, FAR):
            self.assertEqual(Crew(tasks, walks={("a", "b"): walk}).walks, {("a", "b"): walk})

    def test_walks_ask_for_others(self):
        tasks = ((0, 4, "a"), (5, 9, "b"), (5, 9, "c"))
        self.wrong(tasks, walks={("a", "b"): 1})
        self.wrong(tasks, walks={("a", "b"): 4, ("a", "c"): 2, ("c", "b"): 1})
        right = {("a", "b"): 3, ("a", "c"): 2, ("c", "b"): 1}
        self.assertEqual(Crew(tasks, walks=right).walks, right)
        # Names that stand in walks alone count, too; those of which nothing is told are not asked for.
        self.wrong(tasks[:2], walks={("a", "b"): 1, ("b", "d"): 0})
        self.assertEqual(Crew(tasks[:2], walks={("a", "b"): 1, ("a", "d"): 1}).walk("d", "b"), 0)
        self.assertEqual(Crew((), walks={("x", "y"): 5}).walk("x", "y"), 5)

    def test_walks_by_all_names(self):
        kinds = {True: 0, False: 0}
        for seed in range(300):
            rng = random.Random(seed)
            names = "abcd"[:rng.randint(2, 4)]
            told = {(one, other): rng.randint(0, 3) for one in names for other in names if one != other and rng.random() < 0.6}
            tasks = tuple((0, 1, name) for name in names if rng.random() < 0.5)
            known = {name for pair in told for name in pair} | {task[2] for task in tasks}
            right = all(told.get((a, c), 0) <= told.get((a, b), 0) + told.get((b, c), 0) for a in known for b in known for c in known)
            kinds[right] += 1
            if right:
                self.assertEqual(Crew(tasks, walks=told).walks, dict(sorted(told.items())))
            else:
                self.wrong(tasks, walks=told)
        self.assertTrue(min(kinds.values()) > 30)

    def test_walk(self):
        crew = Crew(((0, 4, "a"), (5, 9, "b")), walks={("a", "b"): 1, ("a", "d"): 1})
        self.assertEqual([crew.walk(*pair) for pair in (("a", "b"), ("b", "a"), ("a", "a"), ("d", "d"), ("a", "d"))], [1, 0, 0, 0, 1])
        for value in ("x", "", "dawn", None, 1, ["a"], ("a",), True, {}, 10 ** 59, DAY):
            for ask in (lambda: crew.walk(value, "y"), lambda: crew.walk("a", value)):
                with self.assertRaises(UnknownName) as caught:
                    ask()
                self.assertTrue(is_same(caught.exception.wanted, value))
        with self.assertRaises(UnknownName):
            Crew(()).walk("a", "a")

    def test_can_follow(self):
        crew = Crew(((0, 4, "a"), (4, 8, "a"), (5, 8, "b"), (6, 9, "b"), (3, 5, "a")), walks={("a", "b"): 2})
        right = {(1, 0), (3, 0)}
        for task in range(5):
            for other in range(5):
                self.assertIs(crew.can_follow(task, other), (task, other) in right)
        for value in (-1, 5, True, False, None, "0", (0,), [0], 10 ** 59, DAY):
            for ask in (lambda: crew.can_follow(value, 9), lambda: crew.can_follow(0, value)):
                with self.assertRaises(InvalidNumber) as caught:
                    ask()
                self.assertTrue(is_same(caught.exception.given, value))
        with self.assertRaises(InvalidNumber):
            Crew(()).can_follow(0, 0)

    def test_following_goes_on(self):
        for seed in range(60):
            crew = random_crew(seed)
            tasks = range(len(crew))
            for one in tasks:
                self.assertIs(crew.can_follow(one, one), False)
                for mid in tasks:
                    for other in tasks:
                        if crew.can_follow(one, mid) and crew.can_follow(mid, other):
                            self.assertIs(crew.can_follow(one, other), True)

    def test_equality(self):
        self.assertTrue(CREW == Crew(CREW.tasks, walks={("b", "a"): 2, ("a", "b"): 2}))
        self.assertTrue(Crew(CREW.tasks) == Crew(CREW.tasks, walks={("a", "b"): 0, ("x", "y"): 0}))
        self.assertTrue(CREW != Crew(CREW.tasks) and CREW != Crew(CREW.tasks[::-1], walks=CREW.walks))
        self.assertTrue(CREW != Crew(CREW.tasks, walks={("a", "b"): 2, ("b", "a"): 1}))
        self.assertTrue(Crew((), walks={("x", "y"): 1}) != Crew(()))
        for value in odd_values():
            self.assertIs(CREW == value, isinstance(value, Crew))
            self.assertIs(FLAT == value, False)

    def test_nothing_is_shared(self):
        walks = {("a", "b"): 2, ("b", "a"): 2}
        crew = Crew(CREW.tasks, walks=walks)
        before = shown(crew)
        walks.clear()
        crew.walks.clear()
        self.assertEqual(shown(crew), before)
        with self.assertRaises(TypeError):
            iter(crew)
        for name in ("tasks", "walks"):
            with self.assertRaises(AttributeError):
                setattr(crew, name, ())


class FewestTest(unittest.TestCase):
    def test_against_all_rosters_and_crowds(self):
        sizes = {}
        for seed in range(250):
            crew = random_crew(seed)
            rosters, crowds = all_rosters(crew), all_crowds(crew)
            fewest = min(len(rows) for rows in rosters)
            self.assertEqual(fewest, max(len(crowd) for crowd in crowds))
            self.assertEqual(crew.fewest(), fewest)
            self.assertIn(crew.rosters(), rosters)
            self.assertEqual(len(crew.rosters()), fewest)
            self.assertIn(crew.crowd(), crowds)
            self.assertEqual(len(crew.crowd()), fewest)
            sizes[fewest] = sizes.get(fewest, 0) + 1
            for number in range(len(crew) + 2):
                self.check_papers(crew, number, rosters, crowds)
        self.assertTrue(all(sizes[many] > 5 for many in range(5)))

    def check_papers(self, crew, number, rosters, crowds):
        told = crew.paper(number)
        self.assertIs(crew.is_paper(number, told), True)
        self.assertEqual(told[0], "rosters" if crew.fewest() <= number else "crowd")
        for rows in rosters[:40]:
            self.assertIs(crew.are_rosters(rows), True)
            self.assertIs(crew.is_paper(number, ("rosters", rows)), len(rows) <= number)
        for crowd in crowds:
            self.assertIs(crew.is_paper(number, ("crowd", crowd)), len(crowd) == number + 1)
        if crew.fewest() <= number:
            for lot in combinations(range(len(crew)), number + 1):
                self.assertIs(crew.is_paper(number, ("crowd", lot)), False)

    def test_far_numbers_of_hands(self):
        self.assertEqual(CREW.paper(10 ** 39)[0], "rosters")
        self.assertIs(CREW.is_paper(10 ** 39, ("rosters", ((0,), (1,), (2,), (3,)))), True)

    def test_papers_that_are_none(self):
        rosters = ((0, 1), (2, 3))
        self.assertIs(CREW.is_paper(2, ("rosters", rosters)), True)
        for rows in (rosters[::-1], ((0, 1),), ((0, 1), (2,)), ((0, 1), (2, 3), (3,)), ((0, 1), (2, 3, 3)), ((1, 0), (2, 3)),
                     ((0, 1), (3, 2)), ((0, 2), (1, 3)), list(rosters), ([0, 1], (2, 3)), ((0, 1), (2, 3), ()), ((), (0, 1), (2, 3)),
                     ((0, 1), (2, 4)), ((0, 1), (2, None)), ((0, True), (2, 3)), (("0", 1), (2, 3)), (0, 1, 2, 3), None, ((0, 1), None)):
            self.assertIs(CREW.is_paper(3, ("rosters", rows)), False, rows)
            self.assertIs(CREW.are_rosters(rows), False, rows)
        for crowd in ((2, 1), [1, 2], (1,), (1, 2, 3), (1, 1), (0, 1), (1, True), (1, 4), (-1, 1), None, (None,), ((1,), (2,))):
            self.assertIs(CREW.is_paper(1, ("crowd", crowd)), False, crowd)
        for value in (["rosters", rosters], ("rosters",), ("rosters", rosters, ()), ("roster", rosters), rosters, (rosters, "rosters"),
                      ("crowds", (0, 1, 2)), ("crowds", ())):
            self.assertIs(CREW.is_paper(2, value), False)
        self.assertIs(CREW.is_paper(1, ("crowds", (1, 2))), False)
        for value in odd_values():
            self.assertIs(CREW.are_rosters(value), False)
            self.assertIs(CREW.is_paper(2, value), False)
            self.assertIs(CREW.is_paper(2, ("rosters", value)), False)
            self.assertIs(CREW.is_paper(0, ("crowd", value)), False)
            self.assertIs(CREW.are_rosters((value, (2, 3))), False)

    def test_no_tasks(self):
        crew = Crew(())
        self.assertEqual((crew.fewest(), crew.rosters(), crew.crowd(), crew.paper(0)), (0, (), (), ("rosters", ())))
        self.assertIs(crew.is_paper(0, ("rosters", ())), True)
        self.assertIs(crew.is_paper(0, ("crowd", ())), False)
        self.assertIs(crew.are_rosters((), longest=0, rest=9), True)

    def test_a_great_crew(self):
        rng = random.Random(3)
        walks = {(one, other): 2 for one in "abcde" for other in "abcde" if one != other}
        tasks = []
        for _ in range(60):
            first = rng.randint(0, 200)
            tasks.append((first, first + rng.randint(5, 40), rng.choice("abcde")))
        crew = Crew(tuple(tasks), walks=walks)
        many = crew.fewest()
        self.assertEqual(len(crew.crowd()), many)
        self.assertIs(crew.is_paper(many, ("rosters", crew.rosters())), True)
        self.assertIs(crew.is_paper(many - 1, ("crowd", crew.crowd())), True)
        row = Crew(tuple((at, at + 1, "a") for at in range(60)))
        self.assertEqual((row.fewest(), row.rosters()), (1, (tuple(range(60)),)))
        heap = Crew(tuple((0, at + 1, "a") for at in range(60)))
        self.assertEqual((heap.fewest(), heap.crowd()), (60, tuple(range(60))))

    def test_errors(self):
        for value in (-1, True, False, None, "1", (1,), [1], 10 ** 40, 10 ** 59, DAY):
            for ask in (lambda: CREW.paper(value), lambda: CREW.is_paper(value, None)):
                with self.assertRaises(InvalidNumber) as caught:
                    ask()
                self.assertTrue(is_same(caught.exception.given, value))


class DutyTest(unittest.TestCase):
    def test_longest(self):
        rows = ((0, 1), (2, 3))
        for longest, right in ((None, True), (9, True), (8, False), (0, False), (10 ** 39, True)):
            self.assertIs(CREW.are_rosters(rows, longest=longest), right)
        self.assertIs(CREW.are_rosters(((0,), (1,), (2, 3)), longest=7), True)
        self.assertIs(CREW.are_rosters(((0,), (1,), (2, 3)), longest=6), False)
        self.assertIs(CREW.are_rosters(((0,), (1,), (2,), (3,)), longest=4), True)
        self.assertIs(CREW.are_rosters(((0,), (1,), (2,), (3,)), longest=3), False)

    def test_rest(self):
        rows = ((0, 1), (2, 3))
        for rest, right in ((0, True), (1, True), (2, False), (10 ** 39, False)):
            self.assertIs(CREW.are_rosters(rows, rest=rest), right)
        crew = Crew(((0, 4, "a"), (8, 9, "b")), walks={("a", "b"): 2})
        self.assertEqual([crew.are_rosters(((0, 1),), rest=rest) for rest in (2, 3)], [True, False])
        self.assertIs(crew.are_rosters(((0,), (1,)), rest=99), True)

    def test_both(self):
        rows = ((0, 1), (2, 3))
        for longest, rest, right in ((9, 1, True), (8, 1, False), (9, 2, False)):
            self.assertIs(CREW.are_rosters(rows, longest=longest, rest=rest), right)

    def test_errors(self):
        for value in (-1, True, False, "1", (1,), [1], 10 ** 40, 10 ** 59, DAY):
            for ask in (lambda: CREW.are_rosters(None, longest=value, rest=None), lambda: CREW.are_rosters(None, rest=value)):
                with self.assertRaises(InvalidNumber) as caught:
                    ask()
                self.assertTrue(is_same(caught.exception.given, value))
        with self.assertRaises(InvalidNumber) as caught:
            CREW.are_rosters((), longest=None, rest=None)
        self.assertIsNone(caught.exception.given)


class CrewByTest(unittest.TestCase):
    def test_the_task_of_each_row(self):
        answer = ("table", *closure(DAY))
        crew = crew_by(answer, (("land", "off", "g"), ("board", "off", "g"), ("off", "land", "h")), walks={("g", "h"): 3})
        self.assertTrue(crew == Crew(((10, 50, "g"), (15, 50, "g"), (25, 30, "h")), walks={("g", "h"): 3}))
        self.assertTrue(crew_by(answer, ()) == Crew(()))
        self.assertTrue(crew_by(answer, (("land", "off", "g"),), walks={}) == Crew(((10, 50, "g"),)))

    def test_tables_of_no_net(self):
        bounds = {("e", "dawn"): -4, ("dawn", "e"): 9, ("f", "dawn"): -2, ("dawn", "f"): 12, ("e", "f"): 3}
        answer = ("table", bounds, {("e", "e"): 4, ("dawn", "w"): -1})
        self.assertEqual(crew_by(answer, (("e", "f", "g"), ("f", "e", "g"))).tasks, ((4, 12, "g"), (2, 9, "g")))

    def test_answers_that_are_no_tables(self):
        bounds, waits = closure(DAY)
        rows = (("land", "off", "g"),)
        for answer in (*odd_values(), ("list", ()), (bounds, waits), ("table", bounds), ["table", bounds, waits], ("tables", bounds, waits),
                       ("table", bounds, waits, ()), ("table", (), waits), ("table", bounds, ()), ("table", None, waits)):
            if answer != ("table", {}, {}):
                with self.assertRaises(InvalidTable, msg=answer):
                    crew_by(answer, rows)
                with self.assertRaises(InvalidTable):
                    crew_by(answer, None, walks=None)
        for key, number in ((("land", "land"), 1), (("dawn", "dawn"), 1), (("land",), 1), ("ab", 1), (("land", "A"), 1), (("land", None), 1),
                            (("A", "land"), 1), ((None, "land"), 1), (("land", "off"), True), (("land", "off"), None), (("land", "off"), 10 ** 40), (1, 1), (("a", "b", "c"), 1),
                            (("land", ("off",)), 1)):
            with self.assertRaises(InvalidTable, msg=key):
                crew_by(("table", {**bounds, key: number}, waits), rows)
        for key, number in ((("off", "dawn"), 1), (("off",), 1), ("ab", 1), (("A", "fly"), 1), (("off", None), 1), (("off", "fly"), False),
                            (("off", "fly"), "1"), (("off", "fly"), 10 ** 40), (None, 1), (("a", "b", "c"), 1), (1, 1)):
            with self.assertRaises(InvalidTable, msg=key):
                crew_by(("table", bounds, {**waits, key: number}), rows)
        crew_by(("table", {**bounds, ("x", "y"): 10 ** 40 - 1}, {**waits, ("land", "land"): -(10 ** 40) + 1}), rows)

    def test_rows_that_are_none(self):
        answer = ("table", *closure(DAY))
        for rows in (*[value for value in odd_values() if value != ()], (("land", "off"),), (("land", "off", "g", 1),), (["land", "off", "g"],),
                     [("land", "off", "g")], (("land", "land", "g"),), (("dawn", "off", "g"),), (("land", "dawn", "g"),), (("land", "off", "dawn"),),
                     (("land", "off", "G"),), (("land", None, "g"),), (("land", ["off"], "g"),), (("land", "off", "g"),) * 61, (None,), (("x", "y", "g"),) * 61,
                     (("x", "y", "g"), ("land", "land", "g"))):
            with self.assertRaises(InvalidDay, msg=rows):
                crew_by(answer, rows)
            with self.assertRaises(InvalidDay):
                crew_by(answer, rows, walks=None)
        self.assertEqual(len(crew_by(answer, (("land", "off", "g"),) * 60)), 60)

    def test_bounds_that_are_not_there(self):
        bounds, waits = closure(DAY)
        rows = (("land", "off", "g"), ("board", "x", "g"), ("y", "off", "g"))
        for gone, wanted in (((), "x"), ((("dawn", "off"),), "off"), ((("off", "dawn"),), "off"), ((("land", "dawn"),), "land"),
                             ((("dawn", "land"), ("dawn", "off")), "land"), ((("dawn", "board"),), "board")):
            answer = ("table", {pair: bounds[pair] for pair in bounds if pair not in gone}, waits)
            with self.assertRaises(UnknownName) as caught:
                crew_by(answer, rows, walks=None)
            self.assertEqual(caught.exception.wanted, wanted)

    def test_errors_of_the_crew(self):
        answer = ("table", *closure(DAY))
        rows = (("land", "off", "g"), ("board", "off", "h"))
        for walks in (None, {("g", "g"): 1}, {("g", "h"): -1}, {("g", "h"): 1, ("h", "i"): 0}):
            with self.assertRaises(InvalidDay):
                crew_by(answer, rows, walks=walks)
        bounds, waits = answer[1:]
        for more in ({("land", "dawn"): 1}, {("dawn", "off"): 9}, {("dawn", "off"): 10}, {("dawn", "off"): 10 ** 34 + 1}):
            with self.assertRaises(InvalidDay):
                crew_by(("table", {**bounds, **more}, waits), rows)
        self.assertEqual(crew_by(("table", {**bounds, ("dawn", "off"): 11}, waits), rows[:1]).tasks, ((10, 11, "g"),))

    def test_each_hand_comes_in_time(self):
        bounds, waits = closure(CHAIN)
        crew = crew_by(("table", bounds, waits), (("land", "gate", "g"), ("call", "go", "g")))
        self.assertEqual(crew.tasks[0], (-bounds[("land", "dawn")], bounds[("dawn", "gate")], "g"))


class StatementsTest(unittest.TestCase):
    def test_more_hands_than_tasks_at_one_tick(self):
        crew = Crew(((0, 2, "a"), (2, 4, "b")), walks={("a", "b"): 1})
        self.assertEqual(crew.fewest(), 2)

    def test_a_longest_duty_can_ask_for_more_hands_than_a_crowd(self):
        crew = Crew(((0, 1, "a"), (4, 5, "a")))
        self.assertEqual((crew.fewest(), crew.are_rosters(crew.rosters(), longest=4)), (1, False))


if __name__ == "__main__":
    unittest.main()
