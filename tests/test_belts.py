"""Bags: [14.1] to [14.7], stage 14."""

import random
import unittest
from itertools import product

from dawnway.errors import InvalidDay, InvalidNumber, InvalidOperation
from dawnway.parts import belts
from dawnway.parts.belts import Belt
from tests.helpers import BELT, DAY, are_keys_ascending, is_same, odd_values, shown

FAR = 10 ** 30
READY = {"x": 2, "y": 3}
PAPER = (((3, 0, 2), (4, 0, 1), (4, 1, 1)), ((5, ()), (1, ((3, 4),))))


def random_belt(seed, *, lots=3, many=3, last=4, room=2):
    """A small belt."""
    rng = random.Random(seed)
    flights = {}
    for name in "xyz"[:rng.randint(1, 3)]:
        first = rng.randint(0, last)
        flights[name] = (first, first + rng.randint(0, 2))
    told = []
    for _ in range(rng.randint(0, lots)):
        flight = rng.choice(sorted(flights))
        ahead = rng.randint(-flights[flight][0], 2)
        told.append((flight, ahead, ahead + rng.randint(0, 2), rng.randint(1, many), rng.randint(0, 3)))
    return Belt(flights, tuple(told), room=rng.randint(1, room))


def all_ready(belt):
    spans = [range(first, last + 1) for first, last in belt.flights.values()]
    return [dict(zip(belt.flights, ticks)) for ticks in product(*spans)]


def windows_of(belt, ready):
    return [(ready[lot[0]] + lot[1], ready[lot[0]] + lot[2]) for lot in belt.lots]


def excess_of(belt, ready, stretch):
    bound = sum(lot[3] for lot, (first, last) in zip(belt.lots, windows_of(belt, ready)) if stretch[0] <= first and last <= stretch[1])
    return bound - belt.room * (stretch[1] - stretch[0] + 1)


def all_stretches(belt):
    """All stretches of a small belt that can have the greatest excess, and some more."""
    last = max([lot[2] + belt.flights[lot[0]][1] for lot in belt.lots], default=0) + 1
    return [(first, end) for first in range(last + 1) for end in range(first, last + 1)]


def most_put_on(belt, ready, lots):
    """The greatest number of bags of some lots that can be put on, by trying to find each bag a place."""
    places = {}

    def find(bag, tried):
        lot = bag[0]
        first, last = windows_of(belt, ready)[lot]
        for place in [(tick, slot) for tick in range(first, last + 1) for slot in range(belt.room)]:
            if place not in tried:
                tried.add(place)
                if place not in places or find(places[place], tried):
                    places[place] = bag
                    return True
        return False

    return sum(find((lot, bag), set()) for lot in lots for bag in range(belt.lots[lot][3]))


def all_plans(belt, ready):
    """All plans of a small belt."""
    steps = [(tick, lot) for lot, (first, last) in enumerate(windows_of(belt, ready)) for tick in range(first, last + 1)]
    found = []

    def go(at, plan, left, used):
        if at == len(steps):
            found.append(tuple(sorted(plan)))
            return
        tick, lot = steps[at]
        for many in range(min(left[lot], belt.room - used.get(tick, 0)) + 1):
            more = [(tick, lot, many)] if many else []
            go(at + 1, plan + more, [n - many * (i == lot) for i, n in enumerate(left)], {**used, tick: used.get(tick, 0) + many})

    go(0, [], [lot[3] for lot in belt.lots], {})
    return found


class BeltTest(unittest.TestCase):
    def test_constants(self):
        self.assertEqual((belts.MAX_LOTS, belts.MAX_BAGS), (40, 400))

    def test_properties(self):
        belt = Belt({"y": (3, 3), "x": (0, 2)}, BELT.lots, room=2)
        self.assertTrue(is_same((belt.flights, belt.lots, belt.room, belt.total), ({"x": (0, 2), "y": (3, 3)}, BELT.lots, 2, 5)))
        self.assertEqual((len(belt), str(belt)), (2, "belt of 2 lots, 5 bags"))
        belt = Belt({}, (), room=400)
        self.assertEqual((belt.flights, belt.lots, belt.room, belt.total, len(belt), str(belt)), ({}, (), 400, 0, 0, "belt of 0 lots, 0 bags"))

    def wrong(self, error, *args, **more):
        with self.assertRaises(error, msg=(args, more)) as caught:
            Belt(*args, **more)
        return caught.exception

    def test_flights(self):
        for value in (*[value for value in odd_values() if value != {}], {"x": (2, 1)}, {"x": (-1, 1)}, {"x": (0, 10 ** 34 + 1)}, {"x": (0,)},
                      {"x": (0, 1, 2)}, {"x": [0, 1]}, {"x": (False, 1)}, {"x": (0, True)}, {"x": (0, None)}, {"X": (0, 1)}, {"dawn": (0, 1)},
                      {1: (0, 1)}, {"x": None}, {f"x{index}": (0, 1) for index in range(21)}):
            self.wrong(InvalidDay, value, (), room=1)
            self.wrong(InvalidDay, value, None, room=None)
        self.assertEqual(len(Belt({f"x{index}": (0, 1) for index in range(20)}, (), room=1).flights), 20)
        self.assertEqual(Belt({"x": (10 ** 34, 10 ** 34)}, (("x", -(10 ** 34), -(10 ** 34), 1, 0),), room=1).window({"x": 10 ** 34}, 0), (0, 0))

    def test_lots(self):
        flights, lot = {"x": (2, 5), "y": (3, 3)}, ("x", 1, 2, 3, 5)
        for value in (*[value for value in odd_values() if value != ()], [lot], (list(lot),), (lot[:4],), ((*lot, 1),), (lot, None),
                      (("z", *lot[1:]),), (("X", *lot[1:]),), ((None, *lot[1:]),), ((["x"], *lot[1:]),), (("x", True, 2, 3, 5),),
                      (("x", None, 2, 3, 5),), (("x", 1, "2", 3, 5),), (("x", 3, 2, 3, 5),), (("x", -3, 2, 3, 5),), (("x", 1, FAR - 4, 3, 5),),
                      (("x", 1, 2, 0, 5),), (("x", 1, 2, -1, 5),), (("x", 1, 2, True, 5),), (("x", 1, 2, 401, 5),), (("x", 1, 2, None, 5),),
                      (("x", 1, 2, 3, -1),), (("x", 1, 2, 3, 10 ** 9 + 1),), (("x", 1, 2, 3, False),), (("x", 1, 2, 3, None),),
                      (("x", 1, 10 ** 40, 3, 5),), (lot,) * 41, (("x", 1, 2, 200, 5), ("x", 1, 2, 200, 5), ("x", 1, 2, 1, 5))):
            self.wrong(InvalidDay, flights, value, room=1)
            self.wrong(InvalidDay, flights, value, room=None)
        for right in (("x", -2, 2, 3, 5), ("x", 1, FAR - 5, 400, 10 ** 9), ("y", -3, -3, 1, 0), ("x", 2, 2, 3, 5)):
            self.assertEqual(Belt(flights, (right,), room=1).lots, (right,))
        self.assertEqual(Belt(flights, (("x", 1, 2, 10, 5),) * 40, room=1).total, 400)

    def test_room(self):
        for value in (*[value for value in odd_values() if isinstance(value, bool) or value not in (1, 7)], 401, -5, "1", (1,)):
            given = self.wrong(InvalidNumber, BELT.flights, BELT.lots, room=value).given
            self.assertTrue(is_same(given, value) or given == value)
        for room in (1, 400):
            self.assertEqual(Belt(BELT.flights, BELT.lots, room=room).room, room)

    def test_equality(self):
        self.assertTrue(BELT == Belt(dict(reversed(BELT.flights.items())), BELT.lots, room=2))
        for other in (Belt({**BELT.flights, "x": (0, 3)}, BELT.lots, room=2), Belt(BELT.flights, BELT.lots[::-1], room=2),
                      Belt(BELT.flights, BELT.lots, room=3), Belt({**BELT.flights, "z": (0, 0)}, BELT.lots, room=2)):
            self.assertTrue(BELT != other and not BELT == other)
        for value in odd_values():
            self.assertIs(BELT == value, isinstance(value, Belt))

    def test_nothing_is_shared(self):
        flights = {"x": (0, 2), "y": (3, 3)}
        belt = Belt(flights, BELT.lots, room=2)
        before = shown(belt)
        flights.clear()
        belt.flights.clear()
        self.assertEqual(shown(belt), before)
        with self.assertRaises(TypeError):
            iter(belt)
        for name in ("flights", "lots", "room", "total"):
            with self.assertRaises(AttributeError):
                setattr(belt, name, ())
        belt.worst()[1].clear()
        self.assertEqual(belt.worst(), (1, {"x": 2, "y": 3}, (3, 4)))

    def test_ready_ticks(self):
        for value in ({"x": 0, "y": 3}, {"y": 3, "x": 2}):
            self.assertIs(BELT.are_ready(value), True)
        for value in (*odd_values(), {"x": 3, "y": 3}, {"x": -1, "y": 3}, {"x": 2, "y": 2}, {"x": 2, "y": 4}, {"x": 2}, {"y": 3}, {"x": True, "y": 3},
                      {"x": 2, "y": 3, "z": 1}, {"x": "2", "y": 3}, {"x": None, "y": 3}, {"x": [2], "y": 3}, (("x", 2), ("y", 3)), {"x": 2, "z": 3},
                      {"x": 2, 1: 3}):
            self.assertIs(BELT.are_ready(value), False)
            for ask in (lambda: BELT.window(value, None), lambda: BELT.excess(value, None), lambda: BELT.paper(value),
                        lambda: BELT.is_paper(value, None), lambda: BELT.is_plan(value, None), lambda: BELT.least_paper(value),
                        lambda: BELT.is_least_paper(value, None), lambda: BELT.worth_left(value)):
                with self.assertRaises(InvalidOperation):
                    ask()
        self.assertIs(Belt({}, (), room=1).are_ready({}), True)
        self.assertIs(Belt({}, (), room=1).are_ready(()), False)

    def test_windows(self):
        self.assertEqual([BELT.window({"x": x, "y": 3}, 0) for x in range(3)], [(1, 2), (2, 3), (3, 4)])
        self.assertEqual(BELT.window(READY, 1), (3, 4))
        for value in (-1, 2, True, None, "0", (0,), [0], 10 ** 59, DAY):
            with self.assertRaises(InvalidNumber) as caught:
                BELT.window(READY, value)
            self.assertTrue(is_same(caught.exception.given, value))
        with self.assertRaises(InvalidNumber):
            Belt({}, (), room=1).window({}, 0)

    def test_excess(self):
        for seed in range(60):
            belt = random_belt(seed)
            for ready in all_ready(belt):
                for stretch in all_stretches(belt):
                    self.assertEqual(belt.excess(ready, stretch), excess_of(belt, ready, stretch))
        self.assertEqual(BELT.excess(READY, (0, 10 ** 34)), 5 - 2 * (10 ** 34 + 1))
        for value in (*[value for value in odd_values() if value != (1, 2)], (2, 1), (-1, 2), (1, 10 ** 34 + 1), (1,), (1, 2, 3), [1, 2], (True, 2), (1, None)):
            with self.assertRaises(InvalidOperation):
                BELT.excess(READY, value)


class WorstTest(unittest.TestCase):
    def test_against_all(self):
        kinds = {}
        for seed in range(150):
            belt = random_belt(seed, lots=4)
            told = belt.worst()
            if belt.lots == ():
                self.assertIsNone(told)
                self.assertIs(belt.is_worst(None), True)
                continue
            every = [(excess_of(belt, ready, stretch), ready, stretch) for ready in all_ready(belt) for stretch in all_stretches(belt)]
            most = max(number for number, _, _ in every)
            self.assertEqual(told[0], most)
            self.assertTrue(are_keys_ascending(told))
            self.assertEqual(excess_of(belt, *told[1:]), most)
            self.assertIs(belt.is_worst(told), True)
            for value in random.Random(seed).sample(every, min(len(every), 20)) + [item for item in every if item[0] == most][:5]:
                self.assertIs(belt.is_worst(value), value[0] == most)
                self.assertIs(belt.is_worst((most, *value[1:])), value[0] == most)
            kinds[(most > 0) - (most < 0)] = kinds.get((most > 0) - (most < 0), 0) + 1
        self.assertTrue(all(kinds[sign] > 10 for sign in (-1, 0, 1)))

    def test_values_that_are_no_worst(self):
        told = (1, {"x": 2, "y": 3}, (3, 4))
        self.assertIs(BELT.is_worst(told), True)
        for value in (*odd_values(), (0, *told[1:]), (2, *told[1:]), (True, *told[1:]), (None, *told[1:]), ("1", *told[1:]), told[:2], (*told, 1),
                      list(told), (1, {"x": 1, "y": 3}, (3, 4)), (1, {"x": 2}, (3, 4)), (1, told[1], (3, 5)), (1, told[1], [3, 4]), (1, told[1], (4, 3)),
                      (1, told[1], (3,)), (1, None, (3, 4)), (-1, {"x": 2, "y": 3}, (2, 4)), (told[1], 1, (3, 4)), (1, told[1], None)):
            self.assertIs(BELT.is_worst(value), False)
        self.assertIs(Belt({}, (), room=1).is_worst((-1, {}, (0, 0))), False)
        for value in odd_values():
            self.assertIs(Belt({}, (), room=1).is_worst(value), value is None)

    def test_a_stretch_to_which_nothing_is_bound(self):
        belt = Belt({"x": (5, 5)}, (("x", 0, 99, 1, 1),), room=2)
        self.assertEqual(belt.worst()[0], -2)
        self.assertIs(belt.is_worst((-2, {"x": 5}, (0, 0))), True)
        self.assertIs(belt.is_worst((-2, {"x": 5}, (10 ** 34, 10 ** 34))), True)
        self.assertIs(belt.is_worst((-2, {"x": 5}, (0, 1))), False)

    def test_lots_that_do_not_fit_into_the_stretch(self):
        belt = Belt({"x": (0, 10), "y": (5, 5)}, (("x", 3, 3, 5, 1), ("x", 0, 3, 1, 1), ("y", 0, 0, 9, 1)), room=1)
        self.assertEqual(belt.worst(), (13, {"x": 2, "y": 5}, (5, 5)))
        belt = Belt({"x": (0, 4), "y": (5, 5)}, (("x", 0, 0, 5, 1), ("y", 0, 0, 9, 1)), room=3)
        self.assertEqual(belt.worst(), (8, {"x": 4, "y": 5}, (4, 5)))
        belt = Belt({"x": (0, 4), "y": (9, 9)}, (("x", 0, 0, 5, 1), ("y", 0, 0, 9, 1)), room=3)
        self.assertEqual(belt.worst()[::2], (6, (9, 9)))

    def test_wide_bounds(self):
        belt = Belt({"x": (0, FAR - 9), "y": (0, FAR - 9)}, (("x", 0, 3, 5, 1), ("x", 7, 9, 4, 1), ("y", 1, 2, 3, 1)), room=1)
        told = belt.worst()
        # The flights can come so that eight bags are bound to four ticks, or seven of them to three.
        self.assertEqual(told[0], 4)
        self.assertIs(belt.is_worst(told), True)
        self.assertEqual(belt.least_room(), 3)
        belt = Belt({"x": (0, FAR - 9), "y": (FAR // 2, FAR - 9)}, (("x", 0, 3, 5, 1), ("y", 1, 2, 3, 1)), room=1)
        self.assertEqual(belt.worst()[0], 4)
        self.assertGreater(belt.worst()[1]["x"], FAR // 2 - 9)
        apart = Belt({"x": (0, 5), "y": (FAR // 2, FAR - 9)}, (("x", 0, 3, 5, 1), ("y", 1, 2, 3, 1)), room=1)
        self.assertEqual(apart.worst()[0], 1)
        spread = Belt({"x": (0, 0)}, (("x", 0, FAR, 400, 1),), room=1)
        self.assertEqual((spread.worst()[0], spread.least_room(), spread.paper({"x": 0})[0]), (-1, 1, "plan"))

    def test_many_lots(self):
        rng = random.Random(5)
        flights = {f"f{index}": (index * 10, index * 10 + rng.randint(0, FAR // 100)) for index in range(4)}
        lots = tuple((f"f{rng.randrange(4)}", ahead, ahead + rng.randint(0, 30), 10, rng.randint(0, 9)) for ahead in range(40))
        belt = Belt(flights, lots, room=3)
        told = belt.worst()
        self.assertEqual(belt.excess(*told[1:]), told[0])
        self.assertIs(belt.is_worst(told), True)
        room = belt.least_room()
        self.assertLessEqual(Belt(flights, lots, room=room).worst()[0], 0)
        self.assertGreater(Belt(flights, lots, room=room - 1).worst()[0], 0)
        paper = belt.least_paper(told[1])
        self.assertIs(belt.is_least_paper(told[1], paper), True)
        one = Belt({"x": (0, FAR // 2)}, tuple(("x", at, at + at % 7, 10, at % 5) for at in range(40)), room=2)
        self.assertIs(one.is_worst(one.worst()), True)

    def test_least_room(self):
        for seed in range(80):
            belt = random_belt(seed, lots=4)
            room = belt.least_room()
            self.assertTrue(all(Belt(belt.flights, belt.lots, room=room).paper(ready)[0] == "plan" for ready in all_ready(belt)))
            if room > 1:
                less = Belt(belt.flights, belt.lots, room=room - 1)
                self.assertTrue(any(less.paper(ready)[0] == "over" for ready in all_ready(belt)))
        self.assertEqual(Belt({}, (), room=9).least_room(), 1)
        self.assertEqual(Belt({"x": (0, 4)}, (("x", 0, 0, 200, 1), ("x", 0, 0, 200, 1)), room=1).least_room(), 400)


class PaperTest(unittest.TestCase):
    def test_exactly_one_kind(self):
        kinds = {}
        for seed in range(120):
            belt = random_belt(seed)
            for ready in all_ready(belt):
                most = most_put_on(belt, ready, range(len(belt)))
                told = belt.paper(ready)
                self.assertEqual(told[0], "plan" if most == belt.total else "over")
                self.assertIs(belt.is_paper(ready, told), True)
                right = False
                for stretch in all_stretches(belt):
                    over = excess_of(belt, ready, stretch) > 0
                    self.assertIs(belt.is_paper(ready, ("over", stretch)), over)
                    right = right or over
                self.assertIs(right, told[0] == "over")
                kinds[told[0]] = kinds.get(told[0], 0) + 1
        self.assertTrue(min(kinds.values()) > 50)

    def test_plans(self):
        plans = 0
        for seed in range(60):
            belt = random_belt(seed, many=2)
            ready = all_ready(belt)[-1]
            for plan in all_plans(belt, ready)[:200]:
                self.assertIs(belt.is_plan(ready, plan), True)
                whole = sum(many for _, _, many in plan) == belt.total
                self.assertIs(belt.is_paper(ready, ("plan", plan)), whole)
                self.assertTrue(not whole or belt.paper(ready)[0] == "plan")
                plans += 1
        self.assertGreater(plans, 500)

    def test_plans_with_one_thing_wrong(self):
        ready = {"x": 1, "y": 3}
        plan = ((2, 0, 2), (3, 0, 1), (3, 1, 1), (4, 1, 1))
        for value in (plan, (), plan[:2], plan[2:], ((2, 0, 1),)):
            self.assertIs(BELT.is_plan(ready, value), True)
            self.assertIs(BELT.is_paper(ready, ("plan", value)), value == plan)
        for value in (plan[::-1], list(plan), (*plan, (4, 1, 1)), ((2, 0, 1), (2, 0, 2)), ((1, 0, 1),), ((4, 0, 1),), ((2, 1, 1),), ((5, 1, 1),),
                      ((2, 0, 3),), ((3, 0, 2), (3, 1, 1)), ((2, 0, 2), (3, 0, 2)), ((3, 1, 2), (4, 1, 1)), ((2, 0, 0),), ((2, 0, -1),),
                      ((2, 2, 1),), ((2, -1, 1),), ((2, False, 1),), ((2, 0, True),), ((True, 0, 1),), ((2, 0),), ((2, 0, 1, 1),), ([2, 0, 1],),
                      ((2, "0", 1),), ((None, 0, 1),), (None,), None, (2, 0, 1), ((2, 0, 401),), ((2, 0, 10 ** 39),)):
            self.assertIs(BELT.is_plan(ready, value), False, value)
            self.assertIs(BELT.is_paper(ready, ("plan", value)), False, value)
        for value in (*odd_values(), ["plan", plan], ("plan", plan, ()), ("plans", plan), plan, ("over", plan), ("over", (2, 4)), ("over", (4, 2)),
                      ("over", [2, 4]), ("over", None), (plan, "plan")):
            self.assertIs(BELT.is_paper(ready, value), False)
        self.assertIs(BELT.is_paper(READY, ("overs", (3, 4))), False)
        for value in odd_values():
            self.assertIs(BELT.is_plan(ready, value), value == ())
            self.assertIs(BELT.is_paper(ready, ("over", value)), False)
            self.assertIs(BELT.is_plan(ready, (value,)), False)
        self.assertIs(BELT.is_paper(READY, ("over", (3, 4))), True)

    def test_no_lots(self):
        belt = Belt({"x": (0, 2)}, (), room=1)
        self.assertEqual(belt.paper({"x": 1}), ("plan", ()))
        self.assertIs(belt.is_paper({"x": 1}, ("plan", ())), True)
        self.assertEqual((belt.least_paper({"x": 1}), belt.worth_left({"x": 1})), (((), ()), 0))
        self.assertIs(belt.is_least_paper({"x": 1}, ((), ())), True)


class LeastPaperTest(unittest.TestCase):
    def test_against_all_plans(self):
        kinds = {}
        for seed in range(150):
            belt = random_belt(seed, many=2)
            for ready in all_ready(belt)[:4]:
                plan, proofs = belt.least_paper(ready)
                self.assertIs(belt.is_plan(ready, plan), True)
                self.assertIs(belt.is_least_paper(ready, (plan, proofs)), True)
                worths = sorted({lot[4] for lot in belt.lots}, reverse=True)
                self.assertEqual([worth for worth, _ in proofs], worths)
                every = all_plans(belt, ready)
                least = min(self.worth_of(belt, one) for one in every)
                self.assertEqual(self.worth_of(belt, plan), least)
                self.assertEqual(belt.worth_left(ready), least)
                for worth in worths:
                    dear = [lot for lot in range(len(belt)) if belt.lots[lot][4] >= worth]
                    self.assertEqual(sum(many for _, lot, many in plan if lot in dear), most_put_on(belt, ready, dear))
                kinds[least > 0] = kinds.get(least > 0, 0) + 1
                for other in random.Random(seed).sample(every, min(len(every), 12)):
                    right = self.are_all_most(belt, ready, other, worths)
                    self.assertIs(belt.is_least_paper(ready, (other, proofs)), right)
        self.assertTrue(min(kinds.values()) > 50)

    def worth_of(self, belt, plan):
        """The worth of the bags that a plan leaves."""
        return sum(lot[3] * lot[4] for lot in belt.lots) - sum(many * belt.lots[lot][4] for _, lot, many in plan)

    def are_all_most(self, belt, ready, plan, worths):
        for worth in worths:
            dear = [lot for lot in range(len(belt)) if belt.lots[lot][4] >= worth]
            if sum(many for _, lot, many in plan if lot in dear) != most_put_on(belt, ready, dear):
                return False
        return True

    def test_proofs_by_hand(self):
        plan, proofs = PAPER
        self.assertIs(BELT.is_least_paper(READY, PAPER), True)
        other = ((3, 0, 1), (3, 1, 1), (4, 0, 2))
        self.assertIs(BELT.is_least_paper(READY, (other, proofs)), True)
        for value in (((5, ()),), ((5, ()), (1, ())), ((5, ()), (1, ((3, 3),))), ((5, ()), (1, ((3, 5),))), ((5, ()), (1, ((3, 3), (4, 4)))),
                      ((5, ()), (1, ((3, 4), (4, 5)))), ((5, ()), (1, ((3, 4), (5, 5)))), ((1, ((3, 4),)), (5, ())), ((5, ()), (2, ((3, 4),))),
                      ((5, ()), (True, ((3, 4),))), ((5, ()), (1, [(3, 4)])), ((5, ()), (1, ([3, 4],))), ((5, ()), [1, ((3, 4),)]),
                      [(5, ()), (1, ((3, 4),))], ((5, ()), (1, ((3, 4),)), (0, ())), ((5, ()), (5, ()), (1, ((3, 4),))), ((5, ((3, 4),)), (1, ((3, 4),))),
                      ((5, ()), (1, None)), ((5, ()), (1, ((4, 3),))), ((5, ()), None), ((5, ()), (1,)), None, (), ((5, ()), (1, ((3, True),))),
                      ((5, ()), ("1", ((3, 4),))), ((5, ()), (1, (None,))), ((5, None), (1, ((3, 4),)))):
            self.assertIs(BELT.is_least_paper(READY, (plan, value)), False, value)
        for value in (plan[:-1], ((3, 0, 2), (4, 1, 2)), plan[::-1], list(plan), ((3, 0, 2), (4, 0, 1)), None, (), (*plan, (5, 1, 1))):
            self.assertIs(BELT.is_least_paper(READY, (value, proofs)), False, value)
        for value in (*odd_values(), plan, [plan, proofs], (plan,), (plan, proofs, ()), (proofs, plan)):
            self.assertIs(BELT.is_least_paper(READY, value), False)
            self.assertIs(BELT.is_least_paper(READY, (plan, value)), False)
            self.assertIs(BELT.is_least_paper(READY, (value, proofs)), False if value != plan else True)

    def test_stretches_that_the_program_does_not_tell(self):
        # Both lots are full by themselves: one stretch for both, or one for each, also side by side.
        belt = Belt({"x": (0, 0)}, (("x", 0, 1, 3, 2), ("x", 2, 3, 3, 2)), room=1)
        plan = belt.least_paper({"x": 0})[0]
        for stretches, right in ((((0, 1), (2, 3)), True), (((0, 3),), True), (((0, 1),), False), (((2, 3),), False), ((), False),
                                 (((0, 1), (1, 3)), False), (((0, 3), (5, 5)), False), (((2, 3), (0, 1)), False)):
            self.assertIs(belt.is_least_paper({"x": 0}, (plan, ((2, stretches),))), right, stretches)
        roomy = Belt({"x": (0, 0)}, (("x", 0, 1, 2, 0),), room=1)
        for stretches, right in (((), True), (((0, 1),), True), (((0, 0),), False), (((0, 1), (7, 7)), False)):
            self.assertIs(roomy.is_least_paper({"x": 0}, (((0, 0, 1), (1, 0, 1)), ((0, stretches),))), right)

    def test_three_stretches(self):
        belt = Belt({"x": (0, 0)}, tuple(("x", at, at, 2, 7) for at in (0, 2, 4)), room=1)
        plan = ((0, 0, 1), (2, 1, 1), (4, 2, 1))
        self.assertEqual(belt.least_paper({"x": 0}), (plan, ((7, ((0, 0), (2, 2), (4, 4))),)))
        for stretches in (((0, 0), (4, 4), (2, 2)), ((2, 2), (0, 0), (4, 4)), ((4, 4), (2, 2), (0, 0)), ((0, 0), (2, 2))):
            self.assertIs(belt.is_least_paper({"x": 0}, (plan, ((7, stretches),))), False)

    def test_many_worths(self):
        worths = (7, 10 ** 9, 0, 1024, 33, 10 ** 6, 5)
        belt = Belt({"x": (0, 0)}, tuple(("x", 0, 9, 1, worth) for worth in worths), room=1)
        self.assertEqual([worth for worth, _ in belt.least_paper({"x": 0})[1]], sorted(worths, reverse=True))
        self.assertIs(belt.is_least_paper({"x": 0}, belt.least_paper({"x": 0})), True)

    def test_bags_far_apart(self):
        belt = Belt({"x": (0, 0), "y": (FAR - 9, FAR - 9)}, (("y", 0, 2, 3, 1), ("x", 0, 1, 2, 2)), room=1)
        ready = {"x": 0, "y": FAR - 9}
        self.assertEqual(belt.paper(ready), ("plan", ((0, 1, 1), (1, 1, 1), (FAR - 9, 0, 1), (FAR - 8, 0, 1), (FAR - 7, 0, 1))))
        self.assertEqual(belt.least_paper(ready)[0], belt.paper(ready)[1])

    def test_worthless_bags(self):
        belt = Belt({"x": (0, 0)}, (("x", 0, 0, 2, 0), ("x", 0, 0, 1, 4)), room=1)
        self.assertEqual(belt.worth_left({"x": 0}), 0)
        self.assertEqual(belt.least_paper({"x": 0})[0], ((0, 1, 1),))
        self.assertIs(belt.is_least_paper({"x": 0}, (((0, 0, 1),), belt.least_paper({"x": 0})[1])), False)

    def test_stretches_that_meet(self):
        belt = Belt({"x": (0, 0)}, (("x", 0, 3, 4, 5), ("x", 1, 2, 2, 3), ("x", 3, 6, 5, 2), ("x", 0, 6, 3, 1)), room=1)
        paper = belt.least_paper({"x": 0})
        self.assertIs(belt.is_least_paper({"x": 0}, paper), True)


class StatementsTest(unittest.TestCase):
    def test_whole_plans_for_all_ready_ticks(self):
        for seed in range(80):
            belt = random_belt(seed, lots=4)
            whole = all(belt.paper(ready)[0] == "plan" for ready in all_ready(belt))
            self.assertIs(whole, belt.worst() is None or belt.worst()[0] <= 0)

    def test_least_and_greatest_ready_ticks_do_not_tell(self):
        belt = Belt({"x": (0, 6), "y": (3, 3)}, (("x", 0, 0, 1, 1), ("y", 0, 0, 1, 1)), room=1)
        self.assertEqual([belt.paper({"x": x, "y": 3})[0] for x in (0, 3, 6)], ["plan", "over", "plan"])
        self.assertEqual(belt.worst(), (1, {"x": 3, "y": 3}, (3, 3)))


if __name__ == "__main__":
    unittest.main()
