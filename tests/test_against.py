"""Courses against ways: [9.1], [9.2], [0.18], stage 9."""

import random
import unittest

from dawnway.errors import InvalidCourse, InvalidNet, InvalidNumber, InvalidOperation, InvalidWay, TooMany
from dawnway.net.nets import Net
from dawnway.play.plays import Play, each_course, play
from dawnway.rule.rows import is_list, made
from dawnway.rule.tables import answer, closure
from dawnway.walk.against import broken_lines, course_against, followed, is_beaten
from dawnway.walk.walks import walk_way
from tests.helpers import DAY, HARD, LATE, LINES, are_keys_ascending, crossed_net, is_same, odd_values, random_net, random_way


def still(tick, seen):
    """A way that does nothing."""
    return (), None


def hasty(net):
    """A way that does all at once."""
    return lambda tick, seen: (tuple(deed for deed in net.deeds if deed not in [event for _, event in seen]), None)


def behind(net, end):
    """A way that does all when an end is seen."""
    def way(tick, seen):
        done = [event for _, event in seen]
        return (tuple(deed for deed in net.deeds if deed not in done) if end in done else ()), None

    return way


def told(net, ticks):
    """A way that does deeds at told ticks."""
    def way(tick, seen):
        later = [at for at in ticks.values() if at > tick]
        return tuple(deed for deed in net.deeds if ticks.get(deed) == tick), min(later, default=None)

    return way


def in_part(net, seed, last):
    """A way that looks at what is seen, and never does some of the deeds."""
    rng = random.Random(seed)
    never = [deed for deed in net.deeds if rng.random() < 0.4]

    def way(tick, seen):
        done = [event for _, event in seen]
        deeds = tuple(deed for deed in net.deeds if deed not in done and deed not in never
                      and random.Random(f"{seed} {tick} {seen} {deed}").random() < 0.3)
        return deeds, tick + 1 if tick < last else None

    return way


def looser(net):
    """The walk of a net with bounds that are some ticks wider, or None."""
    for ticks in range(1, 12):
        bounds = {name: (first, second, most + ticks) for name, (first, second, most) in net.bounds.items()}
        wide = net.with_bounds(bounds).with_lasts({event: last + ticks for event, last in net.lasts.items()})
        if closure(wide) is not None:
            return walk_way(wide, *closure(wide))
    return None


def ways_of(net, seed):
    """Ways of many kinds."""
    rng = random.Random(seed)
    ways = [still, hasty(net), random_way(net, seed, net.horizon // 2), random_way(net, -seed, net.horizon),
            told(net, {deed: rng.randint(0, net.horizon) for deed in net.deeds}), in_part(net, seed, net.horizon)]
    ways += [behind(net, end) for end in net.ends]
    if looser(net) is not None:
        ways.append(looser(net))
    return ways


def hard_nets(count=60):
    """Small nets with lists, and their lists."""
    nets = [HARD, LATE]
    for seed in range(count):
        nets.append(random_net(seed, events=3 + seed % 3, works=1 + seed % 3, bounds=2 + seed % 3))
        nets.append(crossed_net(seed, works=2 + seed % 2, bounds=2 + seed % 2))
        nets.append(crossed_net(seed, works=3, bounds=3))
    return [(net, answer(net)[1]) for net in nets if answer(net)[0] == "list"]


def some_courses(net, rng, count=3):
    courses = [{name: work[at] for name, work in net.works.items()} for at in (2, 3)]
    return courses + [{name: rng.randint(*work[2:4]) for name, work in net.works.items()} for _ in range(count)]


def counted(way):
    """The way, and a list that grows with each of its plays."""
    plays = []

    def noted(tick, seen):
        if tick == 0:
            plays.append(tick)
        return way(tick, seen)

    return noted, plays


def prescribed(net, why, rows, row):
    """The lengths that a follow from a made row changes, as [9.1] tells them."""
    works = net.works
    if why[0] == "early":
        work = net.work_of(rows[0][1])
        return {work: works[work][2]}
    if why[0] in ("first", "late"):
        return {row[2]: works[row[2]][3]}
    if why[0] == "both":
        other = net.work_of(rows[0][1])
        return {row[2]: works[row[2]][3], other: works[other][2]}
    return {}


class BrokenLinesTest(unittest.TestCase):
    def test_rows_one_by_one(self):
        sizes = set()
        for seed, (net, lines) in enumerate(hard_nets(20)):
            rng = random.Random(seed)
            for way in ways_of(net, seed):
                for course in some_courses(net, rng, 1):
                    one = play(net, way, course)
                    found = broken_lines(net, lines, one)
                    self.assertEqual(found, tuple(i for i, (row, _) in enumerate(lines) if one.is_broken(row)))
                    self.assertIn(len(lines) - 1, found)
                    sizes.add(len(found))
        self.assertGreater(len(sizes), 4)

    def test_errors(self):
        one = play(HARD, still, {"fly": 10})
        self.assertEqual(broken_lines(HARD, LINES, one), (0, 1, 2))
        for value in odd_values():
            if not isinstance(value, Net):
                with self.assertRaises(InvalidNet):
                    broken_lines(value, None, None)
            with self.assertRaises(InvalidOperation):
                broken_lines(HARD, value, one)
            with self.assertRaises(InvalidOperation):
                broken_lines(HARD, LINES, value)
        for lines in (LINES[:2], LINES[::-1], list(LINES)):
            with self.assertRaises(InvalidOperation):
                broken_lines(HARD, lines, one)
        other = HARD.with_lasts({"off": 59})
        with self.assertRaises(InvalidOperation):
            broken_lines(HARD, LINES, Play(other, {"fly": 10}, ((10, ("land",), ()),)))
        with self.assertRaises(InvalidOperation):
            broken_lines(DAY, LINES, one)
        self.assertEqual(broken_lines(HARD, LINES, Play(HARD, {"fly": 10}, one.rounds)), (0, 1, 2))


class FollowedTest(unittest.TestCase):
    def check(self, net, lines, way, course, index):
        row, why = lines[index]
        then, place = followed(net, lines, way, course, index)
        self.assertTrue(are_keys_ascending(then))
        if isinstance(why[1], str):
            self.assertEqual((then, place), (course, None))
            return "told", None
        rows = [lines[at][0] for at in why[1:]]
        new = made(net, why[0], rows[0], other=rows[1] if len(rows) == 2 else None)
        times = {"dawn": 0, **play(net, way, course).times}
        come = new[1] in times and (new[2] if new[0] == "bound" else net.works[new[2]][0]) in times
        changed = prescribed(net, why, rows, new) if come else {}
        self.assertEqual(then, {**course, **changed})
        self.assertIn(place, why[1:])
        if not come:
            left = lines[place][0]
            self.assertFalse(left[1] in times and (left[2] if left[0] == "bound" else net.works[left[2]][0]) in times)
        self.assertIs(play(net, way, then).is_broken(lines[place][0]), True)
        return why[0], come

    def test_from_each_kind_of_line(self):
        kinds = {}
        for seed, (net, lines) in enumerate(hard_nets()):
            rng = random.Random(seed)
            for way in ways_of(net, seed):
                for course in some_courses(net, rng, 1):
                    for index in broken_lines(net, lines, play(net, way, course)):
                        kind = self.check(net, lines, way, course, index)
                        kinds[kind] = kinds.get(kind, 0) + 1
        rules = ("joined", "early", "first", "late", "both", "sure")
        self.assertEqual(set(kinds), {("told", None), *((rule, come) for rule in rules for come in (True, False))})

    def test_one_by_one(self):
        # A deed at most two ticks behind the end, which is seen three ticks late: and not ahead of it.
        lines = answer(LATE)[1]
        rules = [why[0] for _, why in lines]
        self.assertEqual(set(rules) & {"early", "first"}, {"early", "first"})
        for at in range(10):
            for length in range(2, 6):
                way = told(LATE, {"a": at})
                for index in broken_lines(LATE, lines, play(LATE, way, {"w": length})):
                    self.check(LATE, lines, way, {"w": length}, index)

    def test_errors(self):
        course = {"fly": 10}
        for value in odd_values():
            if not isinstance(value, Net):
                with self.assertRaises(InvalidNet):
                    followed(value, None, None, None, None)
            with self.assertRaises(InvalidOperation):
                followed(HARD, value, None, None, None)
            if value != {"fly": 17}:
                with self.assertRaises(InvalidCourse):
                    followed(HARD, LINES, still, value, None)
            if isinstance(value, bool) or value not in (0, 1, 2):
                with self.assertRaises(InvalidNumber) as caught:
                    followed(HARD, LINES, still, course, value)
                self.assertTrue(is_same(caught.exception.given, value) or value == caught.exception.given)
        for value in (None, 5, True, "way", (), [], {}):
            with self.assertRaises(InvalidWay):
                followed(HARD, LINES, value, None, None)
        for index in (-1, 3):
            with self.assertRaises(InvalidNumber) as caught:
                followed(HARD, LINES, lambda tick, seen: None, course, index)
            self.assertEqual(caught.exception.given, index)

    def test_lines_that_are_not_broken(self):
        way = hasty(HARD)
        self.assertEqual(broken_lines(HARD, LINES, play(HARD, way, {"fly": 10})), (0, 2))
        with self.assertRaises(InvalidOperation):
            followed(HARD, LINES, way, {"fly": 10}, 1)
        self.assertEqual(followed(HARD, LINES, way, {"fly": 10}, 2), ({"fly": 10}, 0))
        self.assertEqual(followed(HARD, LINES, way, {"fly": 10}, 0), ({"fly": 10}, None))

    def test_errors_of_the_play(self):
        with self.assertRaises(InvalidWay):
            followed(HARD, LINES, lambda tick, seen: (("land",), None), {"fly": 10}, 1)
        with self.assertRaises(TooMany):
            followed(HARD, LINES, lambda tick, seen: ((), tick + 1), {"fly": 10}, 1)
        with self.assertRaises(ZeroDivisionError):
            followed(HARD, LINES, lambda tick, seen: 1 // 0, {"fly": 10}, 1)

    def test_a_told_row_that_covers_the_one_of_its_line(self):
        lines = ((("bound", "board", "land", -4), ("bound", "walk")), (("bound", "land", "board", 4), ("bound", "soon")),
                 (("bound", "land", "land", 0), ("joined", 1, 0)), (("bound", "land", "board", 3), ("joined", 2, 1)))
        self.assertFalse(is_list(HARD, lines))
        lines = (*lines[:2], (("bound", "board", "land", -5), ("bound", "walk")), (("bound", "land", "land", -1), ("joined", 1, 2)))
        way = told(HARD, {"board": 10, "off": 60})
        self.assertEqual(followed(HARD, lines, way, {"fly": 30}, 0), ({"fly": 30}, None))
        self.assertEqual(followed(HARD, lines, way, {"fly": 30}, 3), ({"fly": 30}, 2))

    def test_what_is_passed_stays(self):
        course = {"fly": 10}
        then, _ = followed(HARD, LINES, still, course, 2)
        then["fly"] = 11
        self.assertEqual(course, {"fly": 10})


class CourseAgainstTest(unittest.TestCase):
    def test_each_way_is_beaten(self):
        many = 0
        for seed, (net, lines) in enumerate(hard_nets()):
            rng = random.Random(seed)
            for way in ways_of(net, seed):
                for begin in (None, *some_courses(net, rng, 1)):
                    noted, plays = counted(way)
                    course, word = course_against(net, lines, noted, course=begin)
                    many += 1
                    self.assertLessEqual(len(plays), len(lines))
                    self.assertGreaterEqual(len(plays), 1)
                    self.assertIn(word[0], ("bound", "last"))
                    self.assertIn(word, play(net, way, course).broken)
                    self.assertIs(is_beaten(net, way, (course, word)), True)
                    self.assertTrue(are_keys_ascending(course))
                    first = begin or {name: work[3] for name, work in net.works.items()}
                    for name, length in course.items():
                        self.assertIn(length, (first[name], *net.works[name][2:4]))
        self.assertGreater(many, 1000)

    def test_ways_that_keep_the_net_in_the_first_course(self):
        changed = 0
        for seed, (net, lines) in enumerate(hard_nets()):
            for course in some_courses(net, random.Random(seed)):
                fixed = net.with_lengths({name: (length, length) for name, length in course.items()})
                if closure(fixed) is None:
                    continue
                ticks = play(fixed, walk_way(fixed, *closure(fixed)), course).times
                noted, plays = counted(told(net, {deed: ticks[deed] for deed in net.deeds}))
                then, word = course_against(net, lines, noted, course=course)
                self.assertLessEqual(len(plays), len(lines))
                self.assertNotEqual(then, course)
                self.assertIn(word, play(net, told(net, {deed: ticks[deed] for deed in net.deeds}), then).broken)
                changed += 1
        self.assertGreater(changed, 50)

    def test_the_course_from_which_it_begins(self):
        def way(tick, seen):
            return (("board", "off"), None) if tick == 60 else ((), 60)

        self.assertEqual(course_against(HARD, LINES, way), ({"fly": 30}, ("bound", "soon")))
        self.assertEqual(course_against(HARD, LINES, way, course=None)[0], {"fly": 30})
        self.assertEqual(course_against(HARD, LINES, way, course={"fly": 12}), ({"fly": 12}, ("bound", "soon")))

    def test_errors(self):
        for value in odd_values():
            if not isinstance(value, Net):
                with self.assertRaises(InvalidNet):
                    course_against(value, None, None, course=5)
            with self.assertRaises(InvalidOperation):
                course_against(HARD, value, None, course=5)
            if value is not None and value != {"fly": 17}:
                with self.assertRaises(InvalidCourse):
                    course_against(HARD, LINES, lambda tick, seen: None, course=value)
        for value in (None, 5, True, "way", (), [], {}):
            with self.assertRaises(InvalidWay):
                course_against(HARD, LINES, value, course=5)
        with self.assertRaises(InvalidWay):
            course_against(HARD, LINES, lambda tick, seen: None)
        with self.assertRaises(TooMany):
            course_against(HARD, LINES, lambda tick, seen: ((), tick + 1))

    def test_a_list_that_is_longer_than_it_has_to_be(self):
        net, lines = HARD, (*((("bound", "dawn", "land", 40), ("last", "land")),) * 5, *LINES[:2],
                            (("bound", "land", "land", -1), ("joined", 6, 5)))
        self.assertTrue(is_list(net, lines))
        for way in ways_of(net, 1):
            self.assertTrue(is_beaten(net, way, course_against(net, lines, way)))


class BeatenTest(unittest.TestCase):
    def test_right_and_wrong_pairs(self):
        kinds = {True: 0, False: 0}
        for seed, (net, _) in enumerate(hard_nets(12)):
            for way in ways_of(net, seed):
                for course in list(each_course(net))[:4]:
                    broken = play(net, way, course).broken
                    for word in net.told:
                        right = word in broken and word[0] in ("bound", "last")
                        self.assertIs(is_beaten(net, way, (course, word)), right)
                        kinds[right] += 1
        self.assertTrue(kinds[True] > 100 and kinds[False] > 100)

    def test_words_of_other_kinds(self):
        net = DAY.with_lasts({"land": 20})
        one = play(net, still, {"fly": 30})
        self.assertIn(("begin", "off"), one.broken)
        for word, right in ((("begin", "off"), False), (("last", "off"), True), (("last", "land"), True), (("most", "fly"), False),
                            (("bound", "walk"), True), (("begin", "land"), False), (("least", "fly"), False)):
            self.assertIs(is_beaten(net, still, ({"fly": 30}, word)), right, word)

    def test_values_that_are_no_pairs(self):
        course, word = {"fly": 10}, ("bound", "soon")
        self.assertIs(is_beaten(HARD, still, (course, word)), True)
        for value in (*odd_values(), [course, word], (word, course), (course,), (course, word, word), ({"fly": 9}, word),
                      ({"fly": True}, word), (course, list(word)), (course, ("bound", "x")), (course, ("joined", 1, 0)),
                      (course, ("bound", "land", "board", 4)), (course, None), (course, ("bound", ["soon"]))):
            self.assertIs(is_beaten(HARD, still, value), False)
            self.assertIs(is_beaten(HARD, still, (value, word)), value == {"fly": 17})
            self.assertIs(is_beaten(HARD, still, (course, value)), False)

    def test_errors(self):
        pair = ({"fly": 10}, ("bound", "soon"))
        for value in odd_values():
            if not isinstance(value, Net):
                with self.assertRaises(InvalidNet):
                    is_beaten(value, None, pair)
        for value in (None, 5, True, "way", (), [], {}):
            with self.assertRaises(InvalidWay):
                is_beaten(HARD, value, None)
        with self.assertRaises(InvalidWay):
            is_beaten(HARD, lambda tick, seen: None, pair)
        with self.assertRaises(TooMany):
            is_beaten(HARD, lambda tick, seen: ((), tick + 1), pair)
        for value in (({"fly": 9}, ("bound", "soon")), ({"fly": 10}, ("bound", "x")), ({"fly": 10}, None), None):
            self.assertIs(is_beaten(HARD, lambda tick, seen: None, value), False)


class StatementsTest(unittest.TestCase):
    def test_no_way_keeps_a_net_with_a_list(self):
        for seed, (net, lines) in enumerate(hard_nets(20)):
            for way in ways_of(net, seed + 1):
                course, _ = course_against(net, lines, way)
                self.assertNotEqual(play(net, way, course).broken, ())

    def test_safe_nets_are_kept_in_the_course_against_ways_of_harder_ones(self):
        for seed, (net, lines) in enumerate(hard_nets(30)):
            way = looser(net)
            if way is not None:
                course, word = course_against(net, lines, way)
                self.assertIs(is_beaten(net, way, (course, word)), True)


if __name__ == "__main__":
    unittest.main()
