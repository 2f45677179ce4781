"""Lanes: [15.1] to [15.5], stage 15."""

import random
import unittest
from itertools import combinations_with_replacement, product

from dawnway.errors import InvalidDay, InvalidNumber, InvalidOperation, InvalidTable, TooMany, UnknownName
from dawnway.parts.lanes import Lane, lane_by
from dawnway.rule.tables import closure
from tests.helpers import DAY, LANE, is_same, odd_values, shown

MANY = 10 ** 9
LAST = 10 ** 34


def random_lane(seed, *, rows=3, many=3, last=6):
    """A small lane."""
    rng = random.Random(seed)
    told = []
    for _ in range(rng.randint(0, rows)):
        first = rng.randint(0, last)
        told.append((first, first + rng.choice([0, 1, 2, 3]), rng.randint(1, many)))
    return Lane(tuple(told), opens=rng.choice([0, 0, 2, 4, 9]), pace=rng.randint(1, 2))


def all_comings(lane):
    """All comings of a small lane, by giving each traveller a tick."""
    lots = [combinations_with_replacement(range(first, last + 1), many) for first, last, many in lane.rows]
    found = set()
    for ticks in product(*lots):
        counts = {}
        for row in ticks:
            for tick in row:
                counts[tick] = counts.get(tick, 0) + 1
        found.add(tuple(sorted(counts.items())))
    return sorted(found)


def served(lane, coming, desks, last=60):
    """The queue tick by tick: what is left, and how long the last of each tick waits."""
    queue, done, left = [], {}, {}
    counts = dict(coming)
    for tick in range(last):
        queue += [tick] * counts.get(tick, 0)
        if tick >= lane.opens:
            for came in queue[:desks * lane.pace]:
                done[came] = tick
            queue = queue[desks * lane.pace:]
        left[tick] = len(queue)
    return tuple((tick, left[tick], done[tick] - tick if tick in done and tick not in queue else None) for tick, _ in coming)


def all_left(lane, coming, desks, last=60):
    """The greatest number of those that are left behind any tick, by the queue itself."""
    counts, queue, most = dict(coming), 0, 0
    for tick in range(last):
        queue += counts.get(tick, 0)
        if tick >= lane.opens:
            queue = max(0, queue - desks * lane.pace)
        most = max(most, queue)
    return most


def carried(lane, desks, first, last):
    return desks * lane.pace * max(0, last - max(first, lane.opens) + 1)


class LaneTest(unittest.TestCase):
    def test_properties(self):
        lane = Lane(((3, 9, 4), (0, 4, 6), (3, 9, 4)), opens=2, pace=5)
        self.assertTrue(is_same((lane.rows, lane.opens, lane.pace, lane.total), (((0, 4, 6), (3, 9, 4), (3, 9, 4)), 2, 5, 14)))
        self.assertEqual((len(lane), str(lane)), (3, "lane of 3 rows"))
        lane = Lane(())
        self.assertEqual((lane.rows, lane.opens, lane.pace, lane.total, len(lane), str(lane)), ((), 0, 1, 0, 0, "lane of 0 rows"))

    def test_rows(self):
        row = (0, 4, 6)
        for value in (*[value for value in odd_values() if value != ()], [row], (list(row),), (row[:2],), ((*row, 1),), (row, None), ((4, 3, 6),),
                      ((-1, 3, 6),), ((0, LAST + 1, 6),), ((False, 3, 6),), ((0, True, 6),), ((0, 4, 0),), ((0, 4, MANY + 1),), ((0, 4, True),),
                      ((0, 4, None),), (("0", 4, 6),), (row,) * 61):
            with self.assertRaises(InvalidDay):
                Lane(value)
            with self.assertRaises(InvalidDay):
                Lane(value, opens=None, pace=None)
        self.assertEqual(Lane((row,) * 60).total, 360)
        self.assertEqual(Lane(((LAST, LAST, MANY), (0, 0, 1))).rows, ((0, 0, 1), (LAST, LAST, MANY)))

    def test_opens_and_pace(self):
        for value in (-1, LAST + 1, True, False, None, "1", (1,), [1], 10 ** 59, DAY):
            with self.assertRaises(InvalidNumber) as caught:
                Lane((), opens=value, pace=None)
            self.assertTrue(is_same(caught.exception.given, value))
        for value in (-1, 0, MANY + 1, True, None, "1", (1,), [1], 10 ** 59, DAY):
            with self.assertRaises(InvalidNumber) as caught:
                Lane((), pace=value)
            self.assertTrue(is_same(caught.exception.given, value))
        self.assertEqual((Lane((), opens=LAST, pace=MANY).opens, Lane((), opens=LAST, pace=MANY).pace), (LAST, MANY))

    def test_equality(self):
        self.assertTrue(LANE == Lane(((3, 9, 4), (0, 4, 6)), opens=2))
        for other in (Lane(LANE.rows), Lane(LANE.rows, opens=2, pace=2), Lane(LANE.rows[:1], opens=2), Lane((*LANE.rows, LANE.rows[0]), opens=2)):
            self.assertTrue(LANE != other and not LANE == other)
        for value in odd_values():
            self.assertIs(LANE == value, isinstance(value, Lane))
        with self.assertRaises(TypeError):
            iter(LANE)
        for name in ("rows", "opens", "pace", "total"):
            with self.assertRaises(AttributeError):
                setattr(LANE, name, 0)

    def test_most_in(self):
        for seed in range(40):
            lane = random_lane(seed, many=2, last=4)
            comings = all_comings(lane)
            for first in range(9):
                for last in range(first, 9):
                    most = max(sum(many for tick, many in coming if first <= tick <= last) for coming in comings)
                    self.assertEqual(lane.most_in(first, last), most)
        self.assertEqual([LANE.most_in(*pair) for pair in ((0, LAST), (5, 9), (5, 5), (0, 2), (10, LAST), (3, 4))], [10, 4, 4, 6, 0, 10])

    def test_stretches_that_are_none(self):
        for ask in (LANE.most_in, LANE.coming):
            for value in (-1, LAST + 1, True, None, "1", (1,), [1], 10 ** 59, DAY):
                for given in ((value, None), (3, value)):
                    with self.assertRaises(InvalidNumber) as caught:
                        ask(*given)
                    self.assertTrue(is_same(caught.exception.given, value))
            with self.assertRaises(InvalidOperation):
                ask(4, 3)
            with self.assertRaises(InvalidOperation):
                ask(LAST, 0)


class ComingTest(unittest.TestCase):
    def test_all_comings_are_judged(self):
        for seed in range(60):
            lane = random_lane(seed, many=2, last=4)
            comings = all_comings(lane)
            for coming in comings:
                self.assertIs(lane.is_coming(coming), True)
            rng = random.Random(seed)
            for _ in range(150):
                counts = {rng.randint(0, 8): rng.randint(1, 3) for _ in range(rng.randint(0, 4))}
                value = tuple(sorted(counts.items()))
                self.assertIs(lane.is_coming(value), value in comings)
            for coming in comings[:20]:
                for at, (tick, many) in enumerate(coming):
                    moved = {t: n for t, n in coming}
                    moved[tick] -= 1
                    moved[tick + 1] = moved.get(tick + 1, 0) + 1
                    value = tuple(sorted((t, n) for t, n in moved.items() if n))
                    self.assertIs(lane.is_coming(value), value in comings)

    def test_by_stretches(self):
        for seed in range(60):
            lane = random_lane(seed, many=2, last=4)
            rng = random.Random(seed)
            for _ in range(60):
                counts = {}
                for _ in range(lane.total):
                    tick = rng.randint(0, 8)
                    counts[tick] = counts.get(tick, 0) + 1
                value = tuple(sorted(counts.items()))
                right = all(
                    sum(many for tick, many in value if first <= tick <= last)
                    >= sum(row[2] for row in lane.rows if first <= row[0] and row[1] <= last)
                    for first in range(10) for last in range(first, 10))
                self.assertIs(lane.is_coming(value), right)

    def test_values_that_are_none(self):
        right = ((0, 6), (4, 4))
        self.assertIs(LANE.is_coming(right), True)
        for value in (*[value for value in odd_values()], list(right), right[::-1], ((0, 3), (0, 3), (4, 4)), ((0, 6), (4, 4), (5, 0)), ((0, 6), (4, 3)),
                      ((0, 6), (4, 5)), ((0, 7), (4, 3)), ((5, 6), (9, 4)), ((0, 6), (10, 4)), ((False, 6), (4, 4)), ((0, 6), (4, "4")), ((0, 6), [4, 4]),
                      ((0, 6), (4, 4, 1)), ((0, 6), None), ((0, 6, 1), (4, 4)), ((-1, 6), (4, 4)), ((0, 10 ** 39),), ((0, 6), (4, None)), ((0, 6), (4, 4), (5, -1), (6, 1))):
            self.assertIs(LANE.is_coming(value), False)
            with self.assertRaises(InvalidOperation):
                LANE.left_by(value, None)
        one = Lane(((1, 1, 1),))
        self.assertEqual([one.is_coming(value) for value in (((1, 1),), ((True, 1),), ((1, True),), ())], [True, False, False, False])
        self.assertEqual([Lane(()).is_coming(value) for value in ((), ((0, 1),))], [True, False])

    def test_coming(self):
        for seed in range(60):
            lane = random_lane(seed)
            for first in range(10):
                for last in range(first, 10):
                    counts = {}
                    for begin, end, many in lane.rows:
                        meets = [tick for tick in range(begin, end + 1) if first <= tick <= last]
                        tick = max(meets) if meets else begin
                        counts[tick] = counts.get(tick, 0) + many
                    told = lane.coming(first, last)
                    self.assertEqual(told, tuple(sorted(counts.items())))
                    self.assertIs(lane.is_coming(told), True)
        self.assertEqual(LANE.coming(0, LAST), ((4, 6), (9, 4)))
        self.assertEqual(LANE.coming(LAST, LAST), ((0, 6), (3, 4)))
        self.assertEqual(Lane(()).coming(0, 3), ())


class LeftByTest(unittest.TestCase):
    def test_tick_by_tick(self):
        waits = {}
        for seed in range(80):
            lane = random_lane(seed)
            rng = random.Random(seed)
            comings = all_comings(lane)
            for coming in rng.sample(comings, min(len(comings), 12)):
                for desks in (0, 1, 2, 3, 9):
                    told = lane.left_by(coming, desks)
                    self.assertEqual(told, served(lane, coming, desks))
                    for _, _, wait in told:
                        waits[wait] = waits.get(wait, 0) + 1
        self.assertTrue(all(waits[wait] > 20 for wait in (None, 0, 1, 2, 3)))

    def test_across_many_ticks(self):
        lane = Lane(((0, 0, MANY), (10 ** 30, LAST, 5)), opens=10 ** 20)
        for desks, told in ((1, ((0, MANY, 10 ** 20 + MANY - 1), (10 ** 30, 4, 4))), (MANY, ((0, MANY, 10 ** 20), (10 ** 30, 0, 0))),
                            (0, ((0, MANY, None), (10 ** 30, MANY + 5, None)))):
            self.assertEqual(lane.left_by(((0, MANY), (10 ** 30, 5)), desks), told)
        late = Lane(((0, 0, 2), (LAST, LAST, 3)), opens=LAST, pace=2)
        self.assertEqual(late.left_by(((0, 2), (LAST, 3)), 1), ((0, 2, LAST), (LAST, 3, 2)))

    def test_desks_that_are_none(self):
        for value in (-1, MANY + 1, True, None, "1", (1,), [1], 10 ** 59, DAY):
            for ask in (lambda: LANE.left_by(((0, 6), (4, 4)), value), lambda: LANE.longest_queue(value), lambda: LANE.longest_wait(value)):
                with self.assertRaises(InvalidNumber) as caught:
                    ask()
                self.assertTrue(is_same(caught.exception.given, value))
        self.assertEqual(Lane(()).left_by((), 3), ())


class LongestTest(unittest.TestCase):
    def test_against_all_comings(self):
        kinds = {}
        for seed in range(150):
            lane = random_lane(seed, many=2, last=5)
            comings = all_comings(lane)
            for desks in (0, 1, 2, 4):
                queue, stretch = lane.longest_queue(desks)
                self.assertEqual(queue, max(all_left(lane, coming, desks) for coming in comings))
                if queue == 0:
                    self.assertIsNone(stretch)
                else:
                    self.assertEqual(lane.most_in(*stretch) - carried(lane, desks, *stretch), queue)
                wait, stretch = lane.longest_wait(desks)
                if desks == 0:
                    self.assertEqual((wait, stretch), (None, None) if lane.rows else (0, None))
                else:
                    most = max([w for coming in comings for _, _, w in lane.left_by(coming, desks)], default=0)
                    self.assertEqual(wait, most)
                    if wait == 0:
                        self.assertIsNone(stretch)
                    else:
                        self.assertIn(wait, [w for _, _, w in lane.left_by(lane.coming(*stretch), desks)])
                kinds[(queue > 0, bool(wait))] = kinds.get((queue > 0, bool(wait)), 0) + 1
        self.assertTrue(all(kinds[key] > 20 for key in ((True, True), (False, False))))

    def test_greater_lanes(self):
        for seed in range(40):
            lane = random_lane(seed, rows=9, many=9, last=30)
            for desks in (1, 2, 5):
                queue, stretch = lane.longest_queue(desks)
                every = [lane.most_in(first, last) - carried(lane, desks, first, last) for first in range(36) for last in range(first, 36)]
                self.assertEqual(queue, max(0, *every))
                waits = [w for first in range(36) for last in range(first, 36) for _, _, w in lane.left_by(lane.coming(first, last), desks)]
                self.assertEqual(lane.longest_wait(desks)[0], max([0, *waits]))

    def test_the_most_that_a_tick_leaves(self):
        for seed in range(60):
            lane = random_lane(seed, many=2, last=5)
            comings = all_comings(lane)
            for desks in (1, 2):
                for tick in range(9):
                    most = max(0, max(lane.most_in(first, tick) - carried(lane, desks, first, tick) for first in range(tick + 1)))
                    left = 0
                    for coming in comings:
                        upto = [(at, many) for at, many in coming if at <= tick]
                        queue = 0
                        for at in range(tick + 1):
                            queue += dict(upto).get(at, 0)
                            if at >= lane.opens:
                                queue = max(0, queue - desks * lane.pace)
                        left = max(left, queue)
                    self.assertEqual(left, most)

    def test_far_numbers(self):
        lane = Lane(((0, LAST, MANY), (10 ** 20, 10 ** 33, MANY)), opens=10 ** 25, pace=3)
        self.assertEqual(lane.longest_queue(1)[0], 2 * MANY)
        number, stretch = lane.longest_wait(7)
        self.assertIn(number, [w for _, _, w in lane.left_by(lane.coming(*stretch), 7)])
        self.assertGreaterEqual(number, 10 ** 25 - 10 ** 20)
        self.assertEqual(Lane(()).longest_queue(0), (0, None))
        self.assertEqual(Lane(()).longest_wait(0), (0, None))
        self.assertEqual(LANE.longest_wait(0), (None, None))


class FewestDesksTest(unittest.TestCase):
    def plain(self, lane, queue, wait):
        """The fewest desks of a small lane, by trying, or None."""
        for desks in range(40):
            if self.is_enough(lane, desks, queue, wait):
                return desks
        return None

    def is_enough(self, lane, desks, queue, wait):
        if queue is not None and lane.longest_queue(desks)[0] > queue:
            return False
        longest = lane.longest_wait(desks)[0]
        return wait is None or longest is not None and longest <= wait

    def test_by_trying(self):
        kinds = {}
        for seed in range(150):
            lane = random_lane(seed, rows=4, many=6)
            for queue in (None, 0, 1, 4, 9):
                for wait in (None, 0, 1, 3, 8):
                    told = lane.fewest_desks(queue=queue, wait=wait)
                    desks = self.plain(lane, queue, wait)
                    if desks is None:
                        self.assertIsNone(told)
                    else:
                        self.assertEqual(told[0], desks)
                        self.check_shown(lane, queue, wait, *told)
                    kinds[None if desks is None else told[1] and told[1][0]] = True
        self.assertEqual(set(kinds), {None, "queue", "wait"})

    def check_shown(self, lane, queue, wait, desks, told):
        if desks == 0:
            self.assertIsNone(told)
            return
        kind, stretch = told
        less = desks - 1
        if kind == "queue":
            self.assertGreater(lane.most_in(*stretch) - carried(lane, less, *stretch), queue)
            self.assertEqual(lane.most_in(*stretch) - carried(lane, less, *stretch), lane.longest_queue(less)[0])
        elif less == 0:
            self.assertGreater(lane.most_in(*stretch), 0)
        else:
            waits = [w for _, _, w in lane.left_by(lane.coming(*stretch), less)]
            self.assertEqual(max(waits), lane.longest_wait(less)[0])
            self.assertGreater(max(waits), wait)

    def test_nothing_asked(self):
        self.assertEqual(LANE.fewest_desks(), (0, None))
        self.assertEqual(LANE.fewest_desks(queue=10), (0, None))
        self.assertEqual(Lane(()).fewest_desks(queue=0, wait=0), (0, None))
        self.assertEqual(LANE.fewest_desks(queue=None, wait=None), (0, None))

    def test_no_number_is_enough(self):
        self.assertIsNone(LANE.fewest_desks(queue=5))
        self.assertIsNone(LANE.fewest_desks(wait=1))
        self.assertIsNone(LANE.fewest_desks(queue=5, wait=99))
        self.assertIsNone(LANE.fewest_desks(queue=99, wait=1))
        self.assertEqual(LANE.fewest_desks(queue=6, wait=2)[0], 6)

    def test_a_wait_with_0_desks(self):
        lane = Lane(((3, 9, 1),))
        desks, (kind, stretch) = lane.fewest_desks(wait=10 ** 39)
        self.assertEqual((desks, kind), (1, "wait"))
        self.assertEqual(lane.most_in(*stretch), 1)

    def test_more_than_the_greatest_number(self):
        lane = Lane(((0, 0, MANY), (0, 0, 1)))
        for more in ({"queue": 0}, {"wait": 0}):
            with self.assertRaises(TooMany) as caught:
                lane.fewest_desks(**more)
            self.assertEqual(caught.exception.limit, MANY)
        self.assertEqual(lane.fewest_desks(queue=1)[0], MANY)
        self.assertEqual(lane.fewest_desks(wait=1)[0], (MANY + 2) // 2)
        self.assertEqual(Lane(lane.rows, pace=2).fewest_desks(wait=0)[0], (MANY + 2) // 2)
        late = Lane((*lane.rows, (5, 5, 1)), opens=9)
        self.assertIsNone(Lane((*lane.rows, (5, 5, 1)), opens=1).fewest_desks(queue=0))
        self.assertIsNone(late.fewest_desks(queue=0, wait=0))

    def test_errors(self):
        for value in (-1, True, False, "1", (1,), [1], 10 ** 40, 10 ** 59, DAY):
            for ask in (lambda: LANE.fewest_desks(queue=value, wait=-1), lambda: LANE.fewest_desks(wait=value)):
                with self.assertRaises(InvalidNumber) as caught:
                    ask()
                self.assertTrue(is_same(caught.exception.given, value))


class LaneByTest(unittest.TestCase):
    def test_windows_of_events(self):
        answer = ("table", *closure(DAY))
        lane = lane_by(answer, (("land", 0, 5, 7), ("off", -30, -20, 2), ("land", -12, -3, 3)), opens=4, pace=2)
        self.assertTrue(lane == Lane(((10, 35, 7), (0, 30, 2), (0, 27, 3)), opens=4, pace=2))
        self.assertTrue(lane_by(answer, ()) == Lane(()))
        self.assertEqual(lane_by(answer, (("land", -30, -30, 3),)).rows, ((0, 0, 3),))

    def test_no_ticks_left(self):
        answer = ("table", *closure(DAY))
        for ahead, behind in ((-40, -31), (-99, -31), (-10 ** 39, -31)):
            with self.assertRaises(InvalidDay):
                lane_by(answer, (("land", 0, 5, 7), ("land", ahead, behind, 3)), opens=None, pace=None)
        odd = ("table", {("e", "dawn"): -9, ("dawn", "e"): 4}, {})
        with self.assertRaises(InvalidDay):
            lane_by(odd, (("e", 0, 4, 1),))
        self.assertEqual(lane_by(odd, (("e", 0, 5, 1),)).rows, ((9, 9, 1),))

    def test_answers_that_are_no_tables(self):
        bounds, waits = closure(DAY)
        for answer in (*odd_values(), (bounds, waits), ("table", bounds), ("table", bounds, waits, ()), ["table", bounds, waits], ("list", bounds, waits),
                       ("table", {("land", "land"): 1}, {}), ("table", {("land", "off"): True}, {}), ("table", {}, {("land", "dawn"): 1}),
                       ("table", {"landoff": 1}, {})):
            if answer != ("table", {}, {}):
                with self.assertRaises(InvalidTable):
                    lane_by(answer, None, opens=None, pace=None)

    def test_rows_that_are_none(self):
        answer = ("table", *closure(DAY))
        for rows in (*[value for value in odd_values() if value != ()], [("land", 0, 5, 7)], (["land", 0, 5, 7],), (("land", 0, 5),), (("land", 0, 5, 7, 1),),
                     (("land", 6, 5, 7),), (("land", True, 5, 7),), (("land", 0, None, 7),), (("land", 0, 10 ** 40, 7),), (("A", 0, 5, 7),),
                     ((None, 0, 5, 7),), ((["land"], 0, 5, 7),), (("land", 0, 5, 0),), (("land", 0, 5, MANY + 1),), (("land", 0, 5, True),),
                     (("land", 0, 5, 7),) * 61, (("x", 0, 5, 7), ("land", 6, 5, 7)), (None,), (("x", 0, 5, 7),) * 61):
            with self.assertRaises(InvalidDay, msg=rows):
                lane_by(answer, rows, opens=None, pace=None)
        self.assertEqual(len(lane_by(answer, (("land", 0, 5, 7),) * 60)), 60)

    def test_bounds_that_are_not_there(self):
        bounds, waits = closure(DAY)
        rows = (("land", 0, 5, 7), ("off", -99, -90, 2), ("x", 0, 5, 7), ("y", 0, 1, 1))
        for gone, wanted in (((), "x"), ((("dawn", "off"),), "off"), ((("off", "dawn"),), "off"), ((("land", "dawn"), ("off", "dawn")), "land")):
            answer = ("table", {pair: bounds[pair] for pair in bounds if pair not in gone}, waits)
            with self.assertRaises(UnknownName) as caught:
                lane_by(answer, rows, opens=None, pace=None)
            self.assertEqual(caught.exception.wanted, wanted)

    def test_errors_of_the_lane(self):
        answer = ("table", *closure(DAY))
        rows = (("land", 0, 5, 7),)
        with self.assertRaises(InvalidDay):
            lane_by(answer, (("land", 0, LAST, 7),), opens=None, pace=None)
        with self.assertRaises(InvalidNumber) as caught:
            lane_by(answer, rows, opens=-1, pace=0)
        self.assertEqual(caught.exception.given, -1)
        with self.assertRaises(InvalidNumber) as caught:
            lane_by(answer, rows, pace=0)
        self.assertEqual(caught.exception.given, 0)

    def test_what_is_passed_stays(self):
        bounds, waits = closure(DAY)
        answer = ("table", bounds, waits)
        before = shown(answer)
        lane_by(answer, (("land", 0, 5, 7),))
        self.assertEqual(shown(answer), before)


class StatementsTest(unittest.TestCase):
    def test_a_desk_more_never_makes_it_longer(self):
        for seed in range(60):
            lane = random_lane(seed, rows=5, many=5)
            queues = [lane.longest_queue(desks)[0] for desks in range(1, 8)]
            waits = [lane.longest_wait(desks)[0] for desks in range(1, 8)]
            self.assertEqual((queues, waits), (sorted(queues, reverse=True), sorted(waits, reverse=True)))

    def test_who_comes_early_need_not_make_the_longest_queue(self):
        lane = Lane(((0, 3, 4), (3, 3, 4)))
        early = lane.left_by(((0, 4), (3, 4)), 1)
        self.assertLess(max(left for _, left, _ in early), lane.longest_queue(1)[0])


if __name__ == "__main__":
    unittest.main()
