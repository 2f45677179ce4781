"""Places, uses and deals: [11.1] to [11.5], stage 11."""

import random
import unittest
from itertools import permutations, product

from dawnway.errors import (
    InvalidDay, InvalidDeal, InvalidNet, InvalidOperation, Refused, TooMany, UnknownName,
)
from dawnway.net.nets import Net
from dawnway.parts import days
from dawnway.parts.days import Day, clashes, deal_by, is_deal, net_of, torn_uses
from dawnway.rule.tables import is_safe
from tests.helpers import DAY, PLACED, STAND, are_keys_ascending, is_same, odd_values, shown

FAR = 10 ** 30
EVENTS = ("ina", "inb", "inc", "outa", "outb", "outc")
THREE = Net({event: 50 for event in EVENTS})
USES = {"a": ("p", "ina", "outa", "big"), "b": ("p", "inb", "outb", "small"), "c": ("q", "inc", "outc", "big")}
GAPS = {("p", "big", "small"): 4, ("p", "small", "big"): 1, ("p", "big", "big"): 5, ("q", "big", "big"): 9}


def random_day(seed, *, uses=4, places=2, last=6, zero=True):
    """A day without bounds of the net, and with small gaps that keep the triangle."""
    rng = random.Random(seed)
    names = [f"u{index}" for index in range(uses)]
    lasts = {}
    told = {}
    for name in names:
        lasts[f"{name}.a"] = last
        lasts[f"{name}.z"] = last
        told[name] = (f"p{rng.randrange(places)}", f"{name}.a", f"{name}.z", rng.choice(["k", "l", "m"]))
    gaps = {}
    for place in range(places):
        kinds = sorted({use[3] for use in told.values() if use[0] == f"p{place}"})
        raw = {(one, other): rng.randint(0 if zero else 1, 3) for one in kinds for other in kinds}
        for mid in kinds:
            for one in kinds:
                for other in kinds:
                    raw[(one, other)] = min(raw[(one, other)], raw[(one, mid)] + raw[(mid, other)])
        gaps.update({(f"p{place}", *pair): gap for pair, gap in raw.items() if gap})
    return Day(Net(lasts), tuple(f"p{index}" for index in range(places)), uses=told, gaps=gaps)


def all_deals(day):
    """All deals, ascending by the tuples of their sequences."""
    lots = [list(permutations(day.uses_of(place))) for place in day.places]
    return [dict(zip(day.places, sequences)) for sequences in product(*lots)]


def keeps_own_bounds(day, deal, ticks):
    """Whether ticks of all events keep the bounds of a deal that are not of its day's net."""
    at = {"dawn": 0, **ticks}
    bounds = net_of(day, deal).bounds
    own = [bounds[name] for name in bounds if name.startswith(("use.", "gap."))]
    return all(at[second] <= at[first] + most for first, second, most in own)


class DayTest(unittest.TestCase):
    def test_constants(self):
        self.assertEqual((days.MAX_PLACES, days.MAX_USES), (20, 60))

    def test_properties(self):
        net = THREE.with_bounds({"near": ("ina", "inb", 9), "far": ("ina", "inc", 9)})
        day = Day(net, ("p", "q", "r"), uses=dict(reversed(USES.items())), gaps=dict(reversed(GAPS.items())),
                  promises={"near": 0, "far": FAR})
        self.assertTrue(day.net == net)
        self.assertEqual((day.places, day.uses, day.gaps), (("p", "q", "r"), USES, GAPS))
        self.assertEqual(day.promises, {"far": FAR, "near": 0})
        self.assertTrue(are_keys_ascending([day.uses, day.gaps, day.promises]))
        self.assertEqual([day.uses_of(place) for place in day.places], [("a", "b"), ("c",), ()])
        self.assertEqual([day.gap("a", "b"), day.gap("b", "a"), day.gap("a", "a"), day.gap("b", "b"), day.gap("c", "c")], [4, 1, 5, 0, 9])
        self.assertEqual((len(day), str(day)), (3, "day of 3 uses on 3 places"))

    def test_nothing_told(self):
        for empty in ((), {}):
            day = Day(THREE, (), uses=empty, gaps=empty, promises=empty)
            self.assertEqual((day.places, day.uses, day.gaps, day.promises, len(day)), ((), {}, {}, {}, 0))
            self.assertTrue(day == Day(THREE, ()))
            self.assertEqual(str(day), "day of 0 uses on 0 places")

    def wrong(self, *args, **more):
        with self.assertRaises(InvalidDay, msg=(args, more)) as caught:
            Day(*args, **more)
        self.assertIs(type(caught.exception), InvalidDay)

    def test_places(self):
        for value in (*[value for value in odd_values() if value not in ((), ("a",))], ("p", "p"), ("q", "p"), ("p", 1), ["p"],
                      ("dawn",), ("P",), ("p", None), "p", tuple(f"p{index:02}" for index in range(21))):
            self.wrong(THREE, value)
        twenty = tuple(f"p{index:02}" for index in range(20))
        self.assertEqual(Day(THREE, twenty).places, twenty)

    def test_uses(self):
        place, first, last, kind = USES["a"]
        for use in (("x", first, last, kind), (place, "x", last, kind), (place, first, "x", kind), (place, first, first, kind),
                    (place, first, "dawn", kind), (place, "dawn", "dawn", kind), (place, first, last, "K"), (place, first, last, "dawn"),
                    (place, first, last, None), (place, first, last), (place, first, last, kind, 1), [place, first, last, kind],
                    (None, first, last, kind), (place, None, last, kind), (place, first, ["outa"], kind), ([place], first, last, kind),
                    None, "a"):
            self.wrong(THREE, ("p", "q"), uses={**USES, "a": use})
        for name in ("dawn", "A", "", 1, None, ("a",), "x" * 13, True):
            self.wrong(THREE, ("p", "q"), uses={**USES, name: USES["a"]})
        for value in odd_values():
            if value not in ((), {}):
                self.wrong(THREE, ("p", "q"), uses=value)
        self.wrong(THREE, ("p",), uses=USES)
        self.assertEqual(Day(THREE, ("p", "q"), uses={"a": (place, "dawn", last, kind)}).uses["a"][1], "dawn")

    def test_a_last_event_that_is_the_first_one_of_another_use(self):
        self.wrong(THREE, ("p", "q"), uses={**USES, "b": ("p", "outa", "outb", "small")})
        self.wrong(THREE, ("p", "q"), uses={**USES, "b": ("p", "outb", "ina", "small")})
        self.wrong(THREE, ("p", "q"), uses={"a": ("p", "ina", "outa", "k"), "b": ("p", "outa", "ina", "k")})
        for use in (("q", "outa", "outb", "small"), ("p", "ina", "outb", "small"), ("p", "inb", "outa", "small"),
                    ("p", "ina", "outa", "big")):
            self.assertEqual(Day(THREE, ("p", "q"), uses={**USES, "b": use}).uses["b"], use)

    def test_sixty_uses(self):
        lasts = {f"e{index}": 9 for index in range(122)}
        uses = {f"u{index}": ("p", f"e{2 * index}", f"e{2 * index + 1}", "k") for index in range(61)}
        self.wrong(Net(lasts), ("p",), uses=uses)
        del uses["u60"]
        self.assertEqual(len(Day(Net(lasts), ("p",), uses=uses)), 60)

    def test_gaps(self):
        key = ("p", "big", "small")
        for gap in (-1, FAR + 1, True, None, "1", (1,), [1]):
            self.wrong(THREE, ("p", "q"), uses=USES, gaps={key: gap})
        for wrong in (("x", "big", "small"), ("p", "x", "small"), ("p", "big", "x"), ("q", "big", "small"), ("q", "small", "small"),
                      ("p", "big"), ("p", "big", "small", "big"), "pbs", 1, None, ("p", None, "big"), (("p",), "big", "small")):
            self.wrong(THREE, ("p", "q"), uses=USES, gaps={wrong: 0})
        for value in odd_values():
            if value not in ((), {}):
                self.wrong(THREE, ("p", "q"), uses=USES, gaps=value)
        self.wrong(THREE, ("p", "q"), gaps={key: 0})
        for gap in (0, FAR):
            self.assertEqual(Day(THREE, ("p", "q"), uses=USES, gaps={key: gap}).gaps, {key: gap})

    def test_the_triangle(self):
        uses = {name: ("p", *use[1:3], kind) for (name, use), kind in zip(USES.items(), ("k", "l", "m"))}
        net = THREE
        self.wrong(net, ("p",), uses=uses, gaps={("p", "k", "m"): 1})
        self.wrong(net, ("p",), uses=uses, gaps={("p", "k", "m"): 6, ("p", "k", "l"): 3, ("p", "l", "m"): 2})
        self.wrong(net, ("p",), uses=uses, gaps={("p", "k", "k"): 1})
        self.wrong(net, ("p",), uses=USES | {"c": ("q", "inc", "outc", "k")}, gaps={("p", "big", "big"): 6, ("p", "big", "small"): 4, ("p", "small", "big"): 1})
        gaps = {("p", "k", "m"): 5, ("p", "k", "l"): 3, ("p", "l", "m"): 2}
        self.assertEqual(Day(net, ("p",), uses=uses, gaps=gaps).gaps, dict(sorted(gaps.items())))
        # On another place, with fewer kinds, the same gaps ask for no others.
        day = Day(net, ("p", "q"), uses={**uses, "b": ("q", *uses["b"][1:])}, gaps={("p", "k", "m"): 9, ("p", "m", "k"): 1})
        self.assertEqual(day.gap("a", "c"), 9)
        alone = Day(net, ("p",), uses={"a": uses["a"]}, gaps={("p", "k", "k"): 7})
        self.assertEqual(alone.gap("a", "a"), 7)

    def test_the_triangle_by_all_kinds(self):
        kinds = {True: 0, False: 0}
        for seed in range(300):
            rng = random.Random(seed)
            names = "klm"[:rng.randint(1, 3)]
            gaps = {("p", one, other): rng.randint(0, 3) for one in names for other in names if rng.random() < 0.7}
            uses = {name: ("p", f"in{name}", f"out{name}", kind) for name, kind in zip("abc", names)}
            right = all(gaps.get(("p", a, c), 0) <= gaps.get(("p", a, b), 0) + gaps.get(("p", b, c), 0)
                        for a in names for b in names for c in names)
            kinds[right] += 1
            if right:
                self.assertEqual(Day(THREE, ("p",), uses=uses, gaps=gaps).gaps, dict(sorted(gaps.items())))
            else:
                self.wrong(THREE, ("p",), uses=uses, gaps=gaps)
        self.assertTrue(min(kinds.values()) > 50)

    def test_promises(self):
        net = THREE.with_bounds({"near": ("ina", "inb", 9)})
        for cost in (-1, FAR + 1, True, None, "1", (1,)):
            self.wrong(net, (), promises={"near": cost})
        for name in ("far", "ina", "", None, 1, ("near",)):
            self.wrong(net, (), promises={name: 1})
        for value in odd_values():
            if value not in ((), {}):
                self.wrong(net, (), promises=value)
        for cost in (0, 1, FAR):
            self.assertEqual(Day(net, (), promises={"near": cost}).promises, {"near": cost})

    def test_names_of_bounds(self):
        for name in ("use.", "use.0", "gap.x", "case.1", "case.", "gap.11"):
            self.wrong(THREE.with_bounds({name: ("ina", "inb", 9)}), ())
            self.assertEqual(len(Day(Net({name: 9}, {}, {}), ())), 0)
        for name in ("use", "user.0", "gap", "case0", "ause.0", "cases.1", "gaps.1"):
            self.assertEqual(len(Day(THREE.with_bounds({name: ("ina", "inb", 9)}), ())), 0)

    def test_errors_in_their_order(self):
        for value in odd_values():
            if not isinstance(value, Net):
                with self.assertRaises(InvalidNet):
                    Day(value, None, uses=None, gaps=None, promises=None)

    def test_uses_of_and_gap(self):
        day = Day(THREE, ("p", "q"), uses=USES, gaps=GAPS)
        for value in ("x", "a", "", None, 1, ["p"], ("p",), True, 10 ** 59, DAY):
            with self.assertRaises(UnknownName) as caught:
                day.uses_of(value)
            self.assertTrue(is_same(caught.exception.wanted, value))
        for value in ("x", "p", "", None, 1, ["a"], ("a",), True, {}, 10 ** 59, DAY):
            for ask in (lambda: day.gap(value, "y"), lambda: day.gap("a", value), lambda: day.gap("c", value)):
                with self.assertRaises(UnknownName) as caught:
                    ask()
                self.assertTrue(is_same(caught.exception.wanted, value))
        for pair in (("a", "c"), ("c", "b")):
            with self.assertRaises(InvalidOperation):
                day.gap(*pair)

    def test_with_net(self):
        day = Day(THREE, ("p", "q"), uses=USES, gaps=GAPS)
        other = THREE.with_lasts({"ina": 3})
        self.assertTrue(day.with_net(other) == Day(other, ("p", "q"), uses=USES, gaps=GAPS))
        self.assertTrue(day.net == THREE)
        for value in (None, 5, "net", (), {}, PLACED):
            with self.assertRaises(InvalidNet):
                day.with_net(value)
        for net in (Net({"ina": 5}), THREE.with_bounds({"use.0": ("ina", "inb", 1)})):
            with self.assertRaises(InvalidDay):
                day.with_net(net)
        promised = Day(THREE.with_bounds({"x": ("ina", "inb", 1)}), (), promises={"x": 1})
        with self.assertRaises(InvalidDay):
            promised.with_net(THREE)

    def test_equality(self):
        def made(net=THREE.with_bounds({"x": ("ina", "inb", 1)}), places=("p", "q"), uses=USES, gaps=GAPS, promises={"x": 1}):
            return Day(net, places, uses=uses, gaps=gaps, promises=promises)

        self.assertTrue(made() == made(uses=dict(reversed(USES.items()))))
        for other in (made(net=THREE.with_bounds({"x": ("ina", "inb", 2)})), made(places=("p", "q", "r")),
                      made(uses={**USES, "d": USES["a"]}), made(gaps={**GAPS, ("p", "small", "small"): 0}), made(promises={}),
                      made(promises={"x": 2})):
            self.assertTrue(made() != other and not made() == other)
        for value in odd_values():
            self.assertIs(made() == value, False)
            self.assertIs(PLACED == value, isinstance(value, Day))

    def test_nothing_is_shared(self):
        uses, gaps, promises = dict(USES), dict(GAPS), {"x": 1}
        day = Day(THREE.with_bounds({"x": ("ina", "inb", 1)}), ("p", "q"), uses=uses, gaps=gaps, promises=promises)
        before = shown(day)
        for part in (uses, gaps, promises, day.uses, day.gaps, day.promises):
            part.clear()
        self.assertEqual(shown(day), before)
        for name in ("net", "places", "uses", "gaps", "promises"):
            with self.assertRaises(AttributeError):
                setattr(day, name, None)
        with self.assertRaises(TypeError):
            iter(day)


class DealTest(unittest.TestCase):
    def test_deals(self):
        day = Day(THREE, ("p", "q", "r"), uses=USES, gaps=GAPS)
        for deal in all_deals(day):
            self.assertIs(is_deal(day, deal), True)
        self.assertEqual(len(all_deals(day)), 2)
        right = {"p": ("a", "b"), "q": ("c",), "r": ()}
        for value in (*odd_values(), {**right, "p": ("a",)}, {**right, "p": ("a", "b", "a")}, {**right, "p": ("a", "c")},
                      {**right, "p": ("a", "b", "c")}, {**right, "p": ["a", "b"]}, {**right, "p": "ab"}, {**right, "x": ()},
                      {"p": ("a", "b"), "q": ("c",)}, {**right, "p": ("a", None)}, {**right, "p": ("a", ["b"])}, {**right, "r": None},
                      {**right, "r": ("c",)}, {**right, "p": None}, {**right, "p": ("b", 1)}, [right], {**right, 1: ()},
                      {"p": ("a", "b"), "q": ("c",), 1: ()}, {**right, "r": {}}):
            self.assertIs(is_deal(day, value), False, value)
            with self.assertRaises(InvalidDeal):
                net_of(day, value)
        self.assertIs(is_deal(day, {"r": (), "q": ("c",), "p": ("b", "a")}), True)
        self.assertIs(is_deal(Day(THREE, ()), {}), True)
        self.assertIs(is_deal(Day(THREE, ()), ()), False)
        for value in odd_values():
            if not isinstance(value, Day):
                for ask in (is_deal, net_of, torn_uses, clashes, deal_by):
                    with self.assertRaises(InvalidDay):
                        ask(value, None)

    def test_the_net_of_a_deal(self):
        net = THREE.with_bounds({"near": ("ina", "inb", 9)})
        uses = {**USES, "d": ("p", "dawn", "outc", "big"), "e": ("q", "inc", "outb", "big")}
        day = Day(net, ("o", "p", "q"), uses=uses, gaps=GAPS)
        told = net_of(day, {"q": ("e", "c"), "p": ("d", "b", "a"), "o": ()})
        self.assertTrue(told == net.with_bounds({
            "use.0": ("outa", "ina", 0), "use.1": ("outb", "inb", 0), "use.2": ("outc", "inc", 0), "use.3": ("outc", "dawn", 0),
            "use.4": ("outb", "inc", 0), "gap.0": ("inb", "outc", -4), "gap.1": ("ina", "outb", -1), "gap.2": ("inc", "outb", -9),
        }))
        self.assertEqual(net_of(day, {"o": (), "p": ("a", "b", "d"), "q": ("c", "e")}).bounds["gap.1"], ("dawn", "outb", -1))

    def test_ten_uses_are_ascending_by_names(self):
        lasts = {f"e{index:02}": 9 for index in range(24)}
        uses = {f"u{index}": ("p", f"e{2 * index:02}", f"e{2 * index + 1:02}", "k") for index in range(12)}
        day = Day(Net(lasts), ("p",), uses=uses)
        bounds = net_of(day, {"p": tuple(sorted(uses))}).bounds
        self.assertEqual((bounds["use.2"], bounds["use.11"]), (("e21", "e20", 0), ("e19", "e18", 0)))
        self.assertEqual((bounds["gap.0"], bounds["gap.10"]), (("e02", "e01", 0), ("e18", "e17", 0)))

    def test_400_bounds_and_401(self):
        for many, right in ((395, True), (396, False), (400, False)):
            net = THREE.with_bounds({f"b{index}": ("ina", "inb", 9) for index in range(many)})
            day = Day(net, ("p", "q"), uses=USES)
            if right:
                self.assertEqual(len(net_of(day, {"p": ("a", "b"), "q": ("c",)}).bounds), many + 4)
            else:
                day = Day(net, ("p", "q"), uses={**USES, "d": ("p", "inc", "outb", "k")})
                with self.assertRaises(TooMany) as caught:
                    net_of(day, {"p": ("a", "b", "d"), "q": ("c",)})
                self.assertEqual(caught.exception.limit, 400)
        net = THREE.with_bounds({f"b{index}": ("ina", "inb", 9) for index in range(394)})
        day = Day(net, ("p", "q"), uses={**USES, "d": ("p", "inc", "outb", "k")})
        self.assertEqual(len(net_of(day, {"p": ("a", "b", "d"), "q": ("c",)}).bounds), 400)


class TicksTest(unittest.TestCase):
    def test_torn_uses(self):
        day = Day(THREE, ("p", "q"), uses={**USES, "d": ("q", "dawn", "outa", "big")})
        for ticks, torn in (({}, ()), ({"ina": 5}, ()), ({"ina": 5, "outa": 5}, ()), ({"ina": 5, "outa": 4}, ("a",)),
                            ({"outa": 4}, ("a",)), ({"outa": 0}, ("a",)), ({"outb": 1, "outa": 1, "inc": 3}, ("a", "b")),
                            ({"outb": 1, "outa": 1, "outc": 2, "inc": 3}, ("a", "b", "c"))):
            self.assertEqual(torn_uses(day, ticks), torn)

    def test_clashes(self):
        # The gap from a to b is 4, that from b to a is 1.
        day = Day(THREE, ("p", "q"), uses=USES, gaps=GAPS)
        whole = {"ina": 5, "outa": 8}
        for more, right in (({}, ()), ({"inb": 12}, ()), ({"inb": 11}, (("a", "b"),)), ({"inb": 12, "outb": 12}, ()),
                            ({"inb": 2, "outb": 4}, ()), ({"inb": 2, "outb": 5}, (("a", "b"),)), ({"inb": 2}, (("a", "b"),)),
                            ({"inb": 4, "outb": 4}, ()), ({"outb": 7}, ()), ({"inb": 7, "outb": 6}, ()), ({"inc": 5, "outc": 8}, ())):
            self.assertEqual(clashes(day, {**whole, **more}), right, more)
        self.assertEqual(clashes(day, {"ina": 5, "inb": 9}), (("a", "b"),))
        self.assertEqual(clashes(day, {"ina": 5, "inb": 0, "outb": 4}), ())
        self.assertEqual(clashes(day, {"ina": 5, "inb": 0, "outb": 5}), (("a", "b"),))
        self.assertEqual(clashes(day, {"ina": 5, "outa": 4, "inb": 5, "outb": 9}), ())

    def test_uses_without_length(self):
        uses = {name: ("p", use[1], use[2], kind) for (name, use), kind in zip(USES.items(), "klm")}
        day = Day(THREE, ("p",), uses=uses, gaps={("p", "k", "l"): 2, ("p", "k", "m"): 2})
        ticks = {event: 5 for event in EVENTS}
        self.assertEqual(clashes(day, ticks), ())
        self.assertIn(deal_by(day, ticks)["p"], [("b", "c", "a"), ("c", "b", "a")])
        day = Day(THREE, ("p",), uses=uses, gaps={("p", "k", "l"): 2, ("p", "l", "k"): 1, ("p", "k", "m"): 2, ("p", "l", "m"): 1})
        self.assertEqual(clashes(day, ticks), (("a", "b"),))
        day = Day(THREE, ("p",), uses=uses, gaps={("p", "k", "k"): 0})
        self.assertEqual(clashes(day, ticks), ())

    def test_uses_from_dawn(self):
        day = Day(THREE, ("p",), uses={"a": ("p", "dawn", "outa", "k"), "b": ("p", "inb", "outb", "k")}, gaps={("p", "k", "k"): 2})
        for ticks, right in (({}, ()), ({"inb": 9}, (("a", "b"),)), ({"outa": 7, "inb": 9}, ()), ({"outa": 7, "inb": 8}, (("a", "b"),)),
                             ({"outa": 0, "inb": 2}, ()), ({"outa": 0, "inb": 0, "outb": 0}, (("a", "b"),))):
            self.assertEqual(clashes(day, ticks), right, ticks)

    def test_wrong_ticks(self):
        for value in (None, (), [], "x", 5, {"dawn": 0}, {"x": 1}, {"a": 1}, {"ina": -1}, {"ina": True}, {"ina": None},
                      {"ina": 10 ** 34 + 1}, {1: 1}, {"ina": [1]}, {("ina",): 1}, DAY):
            for ask in (torn_uses, clashes, deal_by):
                with self.assertRaises(InvalidOperation):
                    ask(PLACED, value)
        for ask in (torn_uses, clashes):
            self.assertEqual(ask(PLACED, {"ina": 10 ** 34}), ())
            self.assertEqual(ask(PLACED, {}), ())


class DealByTest(unittest.TestCase):
    def test_against_all_deals(self):
        kinds = {}
        for seed in range(120):
            day = random_day(seed, uses=2 + seed % 4, zero=seed % 3 > 0)
            rng = random.Random(seed)
            deals = all_deals(day)
            for _ in range(25):
                ticks = {}
                for name, (_, first, last, _) in day.uses.items():
                    ticks[first] = rng.randint(0, 8)
                    ticks[last] = ticks[first] + rng.choice([0, 0, 0, 1, 2, -1 if rng.random() < 0.2 else 0])
                if min(ticks.values()) < 0:
                    continue
                torn, apart = torn_uses(day, ticks), clashes(day, ticks)
                right = [deal for deal in deals if keeps_own_bounds(day, deal, ticks)]
                self.assertIs(right != [], torn == () and apart == ())
                if right:
                    told = deal_by(day, ticks)
                    self.assertIn(told, right)
                    self.assertTrue(are_keys_ascending(told))
                    firsts = [(place, ticks[day.uses[use][1]]) for place in day.places for use in day.uses_of(place)]
                    if len(firsts) == len(set(firsts)):
                        self.assertEqual(len(right), 1)
                    self.check_all_pairs(day, told, ticks)
                else:
                    with self.assertRaises(Refused) as caught:
                        deal_by(day, ticks)
                    self.assertEqual(caught.exception.reason, ("torn", torn[0]) if torn else ("clash", *apart[0]))
                kinds[(right != [], torn != ())] = kinds.get((right != [], torn != ()), 0) + 1
        self.assertTrue(all(kinds[key] > 100 for key in ((True, False), (False, False), (False, True))))

    def check_all_pairs(self, day, deal, ticks):
        for sequence in deal.values():
            for at, one in enumerate(sequence):
                for other in sequence[at + 1:]:
                    self.assertGreaterEqual(ticks[day.uses[other][1]], ticks[day.uses[one][2]] + day.gap(one, other))

    def test_the_least_torn_use_then_the_least_pair(self):
        day = Day(THREE, ("p", "q"), uses={**USES, "d": ("q", "inb", "outb", "big")})
        ticks = {"ina": 3, "outa": 9, "inb": 4, "outb": 9, "inc": 4, "outc": 9}
        for change, reason in (({}, ("clash", "a", "b")), ({"outa": 2, "outc": 3}, ("torn", "a")), ({"outc": 3}, ("torn", "c")),
                               ({"outb": 3}, ("torn", "b")), ({"outa": 4}, ("clash", "c", "d")), ({"ina": 9}, ("clash", "c", "d"))):
            with self.assertRaises(Refused) as caught:
                deal_by(day, {**ticks, **change})
            self.assertEqual(caught.exception.reason, reason, change)
        self.assertEqual(deal_by(day, {**ticks, "ina": 9, "inc": 9}), {"p": ("b", "a"), "q": ("d", "c")})

    def test_not_all_events(self):
        right = {"ina": 0, "outa": 3, "inb": 5, "outb": 7}
        self.assertEqual(deal_by(PLACED, right), {"s1": ("a", "b")})
        for event in right:
            with self.assertRaises(InvalidOperation):
                deal_by(PLACED, {other: right[other] for other in right if other != event})
        with self.assertRaises(InvalidOperation):
            deal_by(PLACED, {"outa": 3})
        more = PLACED.with_net(Net({**STAND.lasts, "x": 4}, (), STAND.bounds))
        with self.assertRaises(InvalidOperation):
            deal_by(more, right)
        self.assertEqual(deal_by(more, {**right, "x": 10 ** 34}), {"s1": ("a", "b")})

    def test_uses_from_dawn(self):
        day = Day(THREE, ("p",), uses={"a": ("p", "dawn", "outa", "k"), "b": ("p", "inb", "outb", "k")}, gaps={("p", "k", "k"): 2})
        ticks = {event: 2 for event in EVENTS}
        self.assertEqual(deal_by(day, {**ticks, "outa": 0}), {"p": ("a", "b")})
        with self.assertRaises(Refused) as caught:
            deal_by(day, {**ticks, "outa": 1})
        self.assertEqual(caught.exception.reason, ("clash", "a", "b"))

    def test_bounds_of_the_net_do_not_matter(self):
        self.assertEqual(deal_by(PLACED, {"ina": 0, "outa": 0, "inb": 2, "outb": 2}), {"s1": ("a", "b")})


class StatementsTest(unittest.TestCase):
    def test_ticks_without_a_deal_need_not_clash(self):
        ticks = {"ina": 4, "outa": 3, "inb": 9, "outb": 9}
        self.assertEqual((torn_uses(PLACED, ticks), clashes(PLACED, ticks)), (("a",), ()))
        for deal in all_deals(PLACED):
            self.assertIs(keeps_own_bounds(PLACED, deal, ticks), False)

    def test_a_day_with_a_table_need_not_have_a_deal_with_one(self):
        narrow = Net({"ina": 1, "inb": 1, "outa": 4, "outb": 4}, {}, STAND.bounds)
        day = PLACED.with_net(narrow)
        self.assertIs(is_safe(narrow), True)
        for deal in all_deals(day):
            self.assertIs(is_safe(net_of(day, deal)), False)


if __name__ == "__main__":
    unittest.main()
