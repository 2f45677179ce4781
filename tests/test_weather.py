"""Weather: [17.1] to [17.4]."""

import random
import unittest
from itertools import permutations

from dawnway.errors import InvalidDay, InvalidDeal, InvalidName, InvalidNumber, TooMany, UnknownName
from dawnway.net.nets import Net
from dawnway.parts.days import Day, net_of
from dawnway.parts.deals import safe_deals
from dawnway.parts.weather import (
    is_latest, is_least_hold, is_longest, latest_look, least_hold, longest_closing, with_closing, with_icing,
)
from dawnway.rule.tables import answer, is_answer, is_closed, is_safe
from tests.helpers import PLACED, STAND, is_same, odd_values

FAR = 10 ** 30
DEAL = {"s1": ("a", "st", "b")}
STORM = with_closing(PLACED, "st", "s1", 5, 3, 8, look=2, gap=1)
PLAIN = Day(STAND, ("pad", "s1"), uses=PLACED.uses)
PADS = Day(STAND, ("pad", "s1"), uses=PLACED.uses, gaps=PLACED.gaps)
ICED = with_icing(PADS, "ice", "pad", "ina", "outa", 2, 4, 6, look=1)


def stormy(seed):
    """A small day with one closing on a place, one icing on another one, and some deal of it."""
    rng = random.Random(seed)
    last = rng.randint(8, 14)
    lasts = {"ina": last, "outa": last, "inb": last, "outb": last, "clean": last}
    bounds = {"staya": ("outa", "ina", -rng.randint(0, 2)), "stayb": ("outb", "inb", -rng.randint(0, 2))}
    if rng.random() < 0.5:
        bounds["soon"] = ("ina", rng.choice(["outa", "clean"]), rng.randint(3, 8))
    works = {}
    if rng.random() < 0.5:
        works["fly"] = ("dawn", "ina", 1, rng.randint(1, 4), 0)
    day = Day(Net(lasts, works, bounds), ("p", "s"), uses={"a": ("s", "ina", "outa", "k"), "b": ("s", "inb", "outb", "k")})
    least = rng.randint(1, 2)
    day = with_closing(day, "st", "s", rng.randint(0, 4), least, least + rng.randint(0, 3), look=rng.randint(0, 3))
    least = rng.randint(1, 2)
    day = with_icing(day, "ice", "p", rng.choice(["ina", "dawn"]), "clean", least, least + rng.randint(0, 2),
                     rng.randint(0, 5), look=rng.randint(0, 2))
    if rng.random() < 0.5:
        # Something hangs on the end of the storm, or of the icing.
        end = rng.choice(["st.z", "ice.z"])
        day = day.with_net(day.net.with_bounds({"then": (end, "outb", rng.randint(0, 6))}))
    sequence = rng.choice(list(permutations(("a", "b", "st"))))
    return day, {"p": ("ice",), "s": sequence}


def with_most(net, number):
    least, most = net.works["st"][2:4]
    return net.with_lengths({"st": (least, number)}).with_lasts({"st.z": max(0, net.lasts["st.z"] + number - most)})


def with_hold(net, number):
    return net.with_bounds({"ice": (*net.bounds["ice"][:2], number)})


def with_look(work):
    return lambda net, number: net.with_looks({work: number})


class ClosingTest(unittest.TestCase):
    def test_name_by_name(self):
        net = STORM.net
        self.assertEqual(net.lasts, {**STAND.lasts, "st.a": 5, "st.z": 13})
        self.assertEqual(net.works, {"st": ("st.a", "st.z", 3, 8, 2)})
        self.assertEqual(net.bounds, {**STAND.bounds, "st": ("st.a", "dawn", -5)})
        self.assertEqual(STORM.uses, {**PLACED.uses, "st": ("s1", "st.a", "st.z", "closed")})
        kinds = ("big", "small", "closed")
        told = {("s1", "closed", kind): 1 for kind in kinds} | {("s1", kind, "closed"): 1 for kind in kinds}
        self.assertEqual(STORM.gaps, {**PLACED.gaps, **told})
        self.assertEqual((STORM.places, STORM.promises), (PLACED.places, PLACED.promises))
        self.assertEqual(len(PLACED), 2)

    def test_at_dawn(self):
        day = with_closing(PLAIN, "st", "s1", 0, 1, 1)
        self.assertTrue(is_same(day.net.bounds["st"], ("st.a", "dawn", 0)))
        self.assertEqual((day.net.lasts["st.a"], day.net.lasts["st.z"], day.gaps), (0, 1, {}))

    def test_promises_stay(self):
        day = Day(STAND, ("s1",), uses=PLACED.uses, promises={"staya": 4})
        self.assertEqual(with_closing(day, "st", "s1", 5, 3, 8).promises, {"staya": 4})
        self.assertEqual(with_icing(day, "st", "s1", "dawn", "outa", 3, 8, 4).promises, {"staya": 4})

    def test_gaps_that_are_told_stay(self):
        second = with_closing(STORM, "fog", "s1", 20, 1, 4, gap=7)
        self.assertEqual(second.gaps, STORM.gaps)
        bare = with_closing(PLAIN, "st", "s1", 5, 3, 8)
        self.assertEqual(bare.gaps, {})
        later = with_closing(bare, "fog", "s1", 20, 1, 4, gap=7)
        self.assertEqual(later.gap("st", "fog"), 7)
        self.assertEqual(later.gap("fog", "fog"), 7)
        self.assertEqual(later.gap("a", "fog"), 7)
        # One with the kind on one side alone is enough; a place that is called like it is none.
        for kinds in (("closed", "k"), ("k", "closed")):
            one = Day(STAND, ("closed", "s1"), uses={"a": ("s1", "ina", "outa", "closed"), "b": ("s1", "inb", "outb", "k")}, gaps={("s1", *kinds): 3})
            self.assertEqual(with_closing(one, "st", "s1", 5, 3, 8, gap=2).gaps, {("s1", *kinds): 3})
        shut = Day(STAND, ("closed",), uses={"a": ("closed", "ina", "outa", "k")}, gaps={("closed", "k", "k"): 3})
        self.assertEqual(with_closing(shut, "st", "closed", 5, 3, 8, gap=2).gap("a", "st"), 2)
        # Those of another place are no gaps of this one.
        two = Day(STAND, ("s1", "s2"), uses={"a": ("s1", "ina", "outa", "closed"), "b": ("s2", "inb", "outb", "k")},
                  gaps={("s1", "closed", "closed"): 3})
        self.assertEqual(with_closing(two, "st", "s2", 5, 3, 8, gap=2).gap("b", "st"), 2)
        self.assertEqual(with_closing(two, "st", "s1", 5, 3, 8, gap=2).gap("a", "st"), 3)

    def test_the_place_without_uses(self):
        day = Day(STAND, ("s1", "s2"), uses=PLACED.uses)
        self.assertEqual(with_closing(day, "st", "s2", 5, 3, 8, gap=4).gaps, {("s2", "closed", "closed"): 4})

    def test_a_place_with_gaps_takes_none_without_gaps(self):
        with self.assertRaises(InvalidDay):
            with_closing(PLACED, "st", "s1", 5, 3, 8)
        with self.assertRaises(InvalidDay):
            with_icing(PLACED, "ice", "s1", "ina", "outa", 2, 4, 6)

    def test_gaps_that_break_the_triangle(self):
        wide = Day(STAND, ("s1",), uses=PLACED.uses, gaps={("s1", "big", "small"): 5})
        self.assertEqual(len(with_closing(wide, "st", "s1", 5, 3, 8, gap=3)), 3)
        with self.assertRaises(InvalidDay):
            with_closing(wide, "st", "s1", 5, 3, 8, gap=2)


class IcingTest(unittest.TestCase):
    def test_name_by_name(self):
        net = ICED.net
        self.assertEqual(net.lasts, {**STAND.lasts, "ice.a": 50, "ice.z": 50})
        self.assertEqual(net.works, {"ice": ("ice.a", "ice.z", 2, 4, 1)})
        told = {"ice": ("ice.z", "outa", 6), "ice.c": ("outa", "ice.z", 0), "ice.f": ("ice.a", "ina", 0)}
        self.assertEqual(net.bounds, {**STAND.bounds, **told})
        self.assertEqual(ICED.uses, {**PLACED.uses, "ice": ("pad", "ice.a", "ice.z", "icing")})
        self.assertEqual((ICED.gaps, ICED.promises), (PLACED.gaps, PLACED.promises))

    def test_the_last_tick_of_the_off(self):
        day = PADS.with_net(STAND.with_lasts({"outb": 33}))
        lasts = with_icing(day, "ice", "pad", "dawn", "outb", 2, 4, 6).net.lasts
        self.assertEqual((lasts["ice.a"], lasts["ice.z"]), (33, 33))


class NamesTest(unittest.TestCase):
    def closing(self, day, name):
        return with_closing(day, name, "pad", 5, 3, 8)

    def icing(self, day, name):
        return with_icing(day, name, "pad", "ina", "outa", 2, 4, 6)

    def test_ten_and_eleven_characters(self):
        for grown in (self.closing, self.icing):
            self.assertIn("x" * 10, grown(PADS, "x" * 10).uses)
            for name in ("x" * 11, "", "A", "1a", "dawn", "use", "gap", "case", None, 5, True, ["st"], ("st",), {}, PADS):
                with self.assertRaises(InvalidName, msg=name):
                    grown(PADS, name)
            # Such a name is one, but that of its bound begins like those that are made.
            for name in ("use.x", "gap.x", "case.x"):
                with self.assertRaises(InvalidDay):
                    grown(PADS, name)

    def test_names_in_use(self):
        taken = {
            "event a": STAND.renamed({"ina": "st.a"}), "event z": STAND.renamed({"inb": "st.z"}),
            "bound": STAND.renamed({"staya": "st"}),
            "work": Net({**STAND.lasts, "e": 50}, {"st": ("ina", "e", 1, 2, 0)}, STAND.bounds),
        }
        for net in taken.values():
            uses = {"a": ("s1", net.bounds.get("staya", net.bounds.get("st"))[1], "outa", "k")}
            day = Day(net, ("pad", "s1"), uses=uses)
            with self.assertRaises(InvalidName):
                self.closing(day, "st")
            with self.assertRaises(InvalidName):
                with_icing(day, "st", "pad", "dawn", "outa", 2, 4, 6)
        used = Day(STAND, ("pad", "s1"), uses={"st": PADS.uses["a"]})
        for grown in (self.closing, self.icing):
            with self.assertRaises(InvalidName):
                grown(used, "st")
        for end in (".c", ".f"):
            day = PADS.with_net(STAND.renamed({"staya": "st" + end}))
            self.assertIn("st", self.closing(day, "st").uses)
            with self.assertRaises(InvalidName):
                self.icing(day, "st")

    def test_names_that_are_free(self):
        # An event, or a place, can be called like the work and the use.
        day = PADS.with_net(Net({**STAND.lasts, "st": 5}, {}, STAND.bounds))
        self.assertIn("st", self.closing(day, "st").uses)
        self.assertIn("s1", self.closing(PADS, "s1").uses)
        # A bound called like a new event, and a work called like a new bound, bar nothing.
        day = PADS.with_net(STAND.with_bounds({"st.a": ("ina", "outa", 50)}))
        self.assertIn("st", self.icing(day, "st").uses)


class NumbersTest(unittest.TestCase):
    def raises(self, error, call, *args, **more):
        with self.assertRaises(error) as caught:
            call(*args, **more)
        return caught.exception

    def test_closing_limits(self):
        near = STAND.with_lasts({"ina": 3})
        day = PLAIN.with_net(near)
        for begin, least, most, look, gap in ((0, 1, 1, 0, 0), (FAR - 1, 1, 1, 20, FAR), (0, FAR, FAR, 20, 3)):
            told = with_closing(day, "st", "s1", begin, least, most, look=look, gap=gap)
            self.assertEqual(told.net.works["st"], ("st.a", "st.z", least, most, look))
        right = [5, 3, 8, 2, 1]
        wrong = [[-1, FAR + 1], [0, -1, FAR + 1], [2, 0, FAR + 1], [-1, 21, FAR + 1], [-1, FAR + 1]]
        for at, values in enumerate(wrong):
            for value in [*values, True, None, "5", (5,), 10 ** 59]:
                given = [*right[:at], value, *right[at + 1:]]
                error = self.raises(InvalidNumber, with_closing, day, "st", "s1", *given[:3], look=given[3], gap=given[4])
                self.assertTrue(is_same(error.given, value))
                # The first one that is wrong is told.
                both = [*given[:at + 1], *[None] * (4 - at)]
                error = self.raises(InvalidNumber, with_closing, day, "st", "s1", *both[:3], look=both[3], gap=both[4])
                self.assertTrue(is_same(error.given, value))

    def test_a_last_tick_that_is_too_great(self):
        self.assertEqual(with_closing(PLAIN, "st", "s1", 1, 1, FAR - 1).net.lasts["st.z"], FAR)
        self.raises(InvalidDay, with_closing, PLAIN, "st", "s1", 2, 1, FAR - 1)
        self.raises(InvalidDay, with_closing, PLAIN, "st", "s1", FAR, 1, 1)

    def test_icing_limits(self):
        for least, most, hold, look in ((1, 1, 0, 0), (FAR, FAR, FAR, 20)):
            told = with_icing(PADS, "ice", "pad", "dawn", "outa", least, most, hold, look=look)
            self.assertEqual((told.net.works["ice"][2:], told.net.bounds["ice"][2]), ((least, most, look), hold))
        right = [2, 4, 6, 1]
        for at, values in enumerate([[0, -1, FAR + 1], [1, 0, FAR + 1], [-1, FAR + 1], [-1, 21]]):
            for value in [*values, True, None, "5", (5,), 10 ** 59]:
                given = [*right[:at], value, *[None] * (3 - at)]
                error = self.raises(InvalidNumber, with_icing, PADS, "ice", "pad", "ina", "outa", *given[:3], look=given[3])
                self.assertTrue(is_same(error.given, value))

    def test_names_of_places_and_events(self):
        for value in ("x", "", "ina", None, 5, True, ["s1"], ("s1",), {}, PLACED):
            error = self.raises(UnknownName, with_closing, PLACED, "st", value, None, 3, 8)
            self.assertTrue(is_same(error.wanted, value))
            error = self.raises(UnknownName, with_icing, PLACED, "st", value, "x", "x", None, 4, 6)
            self.assertTrue(is_same(error.wanted, value))
        for value in ("x", "", "s1", "a", None, 5, True, ["ina"], ("ina",), {}, PLACED):
            error = self.raises(UnknownName, with_icing, PLACED, "st", "s1", value, "x", None, 4, 6)
            self.assertTrue(is_same(error.wanted, value))
        for value in ("x", "", "s1", "dawn", None, 5, True, ["ina"], ("ina",), {}, PLACED):
            error = self.raises(UnknownName, with_icing, PLACED, "st", "s1", "dawn", value, None, 4, 6)
            self.assertTrue(is_same(error.wanted, value))

    def test_sequence_of_errors(self):
        for day in (None, STAND, 5, (), {}):
            self.raises(InvalidDay, with_closing, day, 1, "x", None, None, None)
            self.raises(InvalidDay, with_icing, day, 1, "x", None, None, None, None, None)
        self.raises(InvalidName, with_closing, PLACED, "use", "x", None, None, None)
        self.raises(InvalidName, with_icing, PLACED, "use", "x", None, None, None, None, None)

    def test_nets_and_days_that_are_full(self):
        lasts = {f"e{index:03}": 9 for index in range(199)}
        day = Day(Net(lasts), ("s1",))
        self.raises(InvalidDay, with_closing, day, "st", "s1", 5, 3, 8)
        self.raises(InvalidDay, with_icing, day, "st", "s1", "dawn", "e000", 3, 8, 4)
        bounds = {f"b{index:03}": ("e0", "dawn", 0) for index in range(398)}
        day = Day(Net({"e0": 9}, (), bounds), ("s1",))
        self.assertEqual(len(with_closing(day, "st", "s1", 5, 3, 8)), 1)
        self.raises(InvalidDay, with_icing, day, "st", "s1", "dawn", "e0", 3, 8, 4)
        lasts = {f"e{index:03}": 9 for index in range(120)}
        uses = {f"u{index:02}": ("s1", f"e{2 * index:03}", f"e{2 * index + 1:03}", "k") for index in range(60)}
        full = Day(Net(lasts), ("s1",), uses=uses)
        self.raises(InvalidDay, with_closing, full, "st", "s1", 5, 3, 8)
        works = {f"w{index:02}": ("dawn", f"e{index:03}", 1, 2, 0) for index in range(60)}
        busy = Day(Net(lasts, works), ("s1",))
        self.raises(InvalidDay, with_closing, busy, "st", "s1", 5, 3, 8)
        self.raises(InvalidDay, with_icing, busy, "st", "s1", "dawn", "e000", 3, 8, 4)


CASES = (
    (longest_closing, is_longest, "st", with_most), (least_hold, is_least_hold, "ice", with_hold),
    (latest_look, is_latest, "st", with_look("st")), (latest_look, is_latest, "ice", with_look("ice")),
)


def numbers_of(function, net):
    """Numbers from the best one on to worse ones."""
    if function is longest_closing:
        return list(range(net.works["st"][2], 25))
    if function is least_hold:
        return list(range(25, -1, -1))
    return list(range(21))


class ExtremesTest(unittest.TestCase):
    def test_against_numbers_one_by_one(self):
        seen = {}
        for seed in range(60):
            day, deal = stormy(seed)
            net = net_of(day, deal)
            for function, judge, name, changed in CASES:
                numbers = numbers_of(function, net)
                safe = [is_safe(changed(net, number)) for number in numbers]
                # Behind a number that is not safe no worse one is.
                self.assertEqual(safe, sorted(safe, reverse=True))
                value = number, told, beyond = function(day, deal, name)
                self.assertIs(judge(day, deal, name, value), True)
                if not any(safe):
                    self.assertEqual((number, told), (None, None))
                    best = 10 ** 30 if function is least_hold else numbers[0]
                    self.assertTrue(is_answer(changed(net, best), beyond) and beyond[0] == "list")
                    seen.setdefault(function, set()).add("none")
                    continue
                if all(safe) and function is longest_closing:
                    self.assertGreater(number, numbers[-1])
                else:
                    self.assertEqual(number, numbers[safe.count(True) - 1])
                self.assertTrue(told[0] == "table" and is_closed(changed(net, number), told[1:]))
                if number == (0 if function is least_hold else 20 if function is latest_look else None):
                    self.assertIsNone(beyond)
                    seen.setdefault(function, set()).add("last")
                elif beyond is not None:
                    worse = number + (-1 if function is least_hold else 1)
                    self.assertTrue(is_answer(changed(net, worse), beyond) and beyond[0] == "list")
                    seen.setdefault(function, set()).add("beyond")
        self.assertEqual(seen[longest_closing], {"none", "beyond"})
        self.assertEqual(seen[least_hold], {"none", "last", "beyond"})
        self.assertEqual(seen[latest_look], {"none", "last", "beyond"})

    def test_papers_with_one_thing_wrong(self):
        wrong = 0
        for seed in range(25):
            day, deal = stormy(seed)
            net = net_of(day, deal)
            for function, judge, name, changed in CASES:
                number, told, beyond = function(day, deal, name)
                if number is None:
                    for value in ((None, None, None), (None, beyond, beyond), (0, None, beyond), (None, None, beyond[1]),
                                  (None, None), [None, None, beyond]):
                        self.assertIs(judge(day, deal, name, value), False)
                    continue
                for other in (number - 1, number + 1, True, None, str(number)):
                    self.assertIs(judge(day, deal, name, (other, told, beyond)), False)
                    if beyond is None and other in (number - 1, number + 1) and not isinstance(other, bool):
                        continue
                    wrong += 1
                values = [(number, told), (number, None, beyond), (number, told[1:], beyond), (number, beyond, told),
                          [number, told, beyond], (number, told, beyond, None)]
                values.append((number, told, ("list", ()) if beyond is None else None))
                if beyond is not None:
                    values += [(number, told, beyond[1]), (number, told, ("list", beyond[1][:-1])), (number, beyond, beyond)]
                spoilt = {pair: told[1][pair] for pair in list(told[1])[1:]}
                values.append((number, ("table", spoilt, told[2]), beyond))
                for value in values:
                    self.assertIs(judge(day, deal, name, value), False, value)
        self.assertGreater(wrong, 80)

    def test_a_number_that_is_not_the_best_one(self):
        found = 0
        for seed in range(60):
            day, deal = stormy(seed)
            net = net_of(day, deal)
            for function, judge, name, changed in CASES:
                number, _, _ = function(day, deal, name)
                numbers = numbers_of(function, net)
                if number in numbers[1:]:
                    other = numbers[numbers.index(number) - 1]
                    value = (other, answer(changed(net, other)), answer(changed(net, number)))
                    self.assertIs(judge(day, deal, name, value), False)
                    found += 1
        self.assertGreater(found, 30)

    def test_tables_and_lists_that_the_program_did_not_make(self):
        found = 0
        for seed in range(20):
            day, deal = stormy(seed)
            number, told, beyond = longest_closing(day, deal, "st")
            if number is None or beyond is None:
                continue
            found += 1
            line = (("bound", "ina", "dawn", 0), ("begin", "ina"))
            lines = [(row, tuple(part if isinstance(part, str) else part + 1 for part in why)) for row, why in beyond[1]]
            value = (number, told, ("list", (line, *lines)))
            self.assertIs(is_longest(day, deal, "st", value), True)
            # The table of a net with one bound more is closed for the net itself, too.
            net = with_most(net_of(day, deal), number)
            narrow = net.with_bounds({"more": ("outb", "dawn", -told[1][("dawn", "outb")])})
            if is_safe(narrow):
                self.assertIs(is_longest(day, deal, "st", (number, answer(narrow), beyond)), True)
        self.assertGreater(found, 3)

    def test_the_last_use_is_seen_late(self):
        day = with_closing(PLAIN, "st", "s1", 30, 3, 8)
        deal = {"pad": (), "s1": ("a", "b", "st")}
        number, told, beyond = latest_look(day, deal, "st")
        self.assertEqual((number, told[0], beyond), (20, "table", None))

    def test_no_worse_look(self):
        # Another work begins by the end of the closing: it is seen at once, or not at all.
        net = Net({"a": 5, "y": 30, "z": 9}, {"st": ("a", "z", 1, 2, 0), "then": ("z", "y", 1, 2, 0)}, {"on": ("a", "dawn", -5)})
        for bounds, told in (({}, (0, "table")), ({"no": ("dawn", "z", 6)}, (None, None))):
            day = Day(net.with_bounds(bounds), ("s",), uses={"st": ("s", "a", "z", "closed")})
            value = number, found, beyond = latest_look(day, {"s": ("st",)}, "st")
            self.assertEqual((number, found and found[0]), told)
            self.assertEqual(beyond and beyond[0], None if number == 0 else "list")
            self.assertIs(is_latest(day, {"s": ("st",)}, "st", value), True)

    def test_the_greatest_most(self):
        free = with_closing(Day(Net({"x": 5}), ("s",)), "st", "s", 0, 1, 3)
        deal = {"s": ("st",)}
        value = number, told, beyond = longest_closing(free, deal, "st")
        self.assertEqual((number, beyond), (FAR, None))
        self.assertIs(is_longest(free, deal, "st", value), True)
        late = with_closing(Day(Net({"x": 5}), ("s",)), "st", "s", 7, 1, 3)
        value = number, told, beyond = longest_closing(late, deal, "st")
        self.assertEqual((number, beyond), (FAR - 7, None))
        self.assertIs(is_longest(late, deal, "st", value), True)
        self.assertIs(is_longest(late, deal, "st", (FAR - 8, answer(with_most(late.net, FAR - 8)), None)), False)

    def test_the_last_tick_of_the_end_changes(self):
        # Ahead of the closing nothing else; its end was told too early by three ticks.
        day = with_closing(Day(Net({"x": 5}), ("s",)), "st", "s", 4, 2, 6)
        tight = day.with_net(day.net.with_lasts({"st.z": 7}))
        value = longest_closing(tight, {"s": ("st",)}, "st")
        self.assertEqual(value[:2], (None, None))
        self.assertIs(is_longest(tight, {"s": ("st",)}, "st", value), True)
        self.assertEqual(is_answer(tight.net.with_lengths({"st": (2, 2)}).with_lasts({"st.z": 3}), value[2]), True)
        zero = day.with_net(day.net.with_lasts({"st.z": 2}))
        value = longest_closing(zero, {"s": ("st",)}, "st")
        exact = answer(zero.net.with_lengths({"st": (2, 2)}).with_lasts({"st.z": 0}))
        self.assertTrue(is_answer(zero.net.with_lengths({"st": (2, 2)}).with_lasts({"st.z": 0}), value[2]))
        self.assertIs(is_longest(zero, {"s": ("st",)}, "st", (None, None, exact)), True)
        lines = ((("bound", "dawn", "st.z", 0), ("last", "st.z")), (("bound", "st.z", "st.a", -2), ("least", "st")),
                 (("bound", "dawn", "st.a", -2), ("joined", 0, 1)), (("bound", "st.a", "dawn", 0), ("begin", "st.a")),
                 (("bound", "dawn", "dawn", -2), ("joined", 2, 3)))
        self.assertIs(is_longest(zero, {"s": ("st",)}, "st", (None, None, ("list", lines))), True)

    def test_a_hold_that_bars_nothing_below_the_horizon(self):
        net = Net({"a": 5, "z": 9, "off": 9}, {"w": ("a", "z", 1, 2, 0)}, {"ice": ("z", "off", 0), "far": ("off", "z", -10)})
        day = Day(net, ("s",), uses={"ice": ("s", "a", "z", "icing")})
        value = least_hold(day, {"s": ("ice",)}, "ice")
        self.assertEqual(value[:2], (None, None))
        self.assertTrue(is_answer(net.with_bounds({"ice": ("z", "off", FAR)}), value[2]))
        self.assertIs(is_least_hold(day, {"s": ("ice",)}, "ice", value), True)

    def test_more_makes_no_day_safe(self):
        for seed in range(40):
            day, deal = stormy(seed)
            net = net_of(day, deal)
            if is_safe(net):
                begin, end, least, most, look = net.works["st"]
                for other in (with_most(net, most - 1) if most > least else net, with_hold(net, net.bounds["ice"][2] + 1),
                              net.with_looks({"st": max(0, look - 1)}), net.with_lengths({"st": (most, most)})):
                    self.assertTrue(is_safe(other))

    def test_what_is_not_true(self):
        # Two closings can each be so long, and not both: a use fits ahead of both, behind both, or between them.
        day = Day(Net({"in": 20, "out": 20}, {}, {"stay": ("out", "in", -4)}), ("s",), uses={"u": ("s", "in", "out", "k")})
        day = with_closing(with_closing(day, "one", "s", 0, 1, 2), "two", "s", 10, 1, 2)
        deal = {"s": ("one", "u", "two")}
        one, two = (longest_closing(day, deal, name)[0] for name in ("one", "two"))
        self.assertEqual(one, 6)
        self.assertGreater(two, 10 ** 20)
        day = Day(Net({"a": 9, "b": 9, "y": 12, "z": 12}, {"v": ("a", "y", 1, 2, 0), "w": ("b", "z", 1, 2, 0)},
                      {"on": ("b", "y", 0), "off": ("dawn", "z", 6)}), ("p", "s"),
                  uses={"v": ("p", "a", "y", "closed"), "w": ("s", "b", "z", "closed")})
        deal = {"p": ("v",), "s": ("w",)}
        one, two = (longest_closing(day, deal, name)[0] for name in ("v", "w"))
        both = day.net.with_lengths({"v": (1, one), "w": (1, two)}).with_lasts({"y": 12 + one - 2, "z": 12 + two - 2})
        self.assertEqual((one, two), (4, 4))
        self.assertFalse(is_safe(net_of(day.with_net(both), deal)))


class UsesTest(unittest.TestCase):
    def setUp(self):
        lasts = {name: 30 for name in ("a", "b", "c", "d", "e", "f", "g", "h", "i", "off")}
        works = {"w": ("a", "b", 1, 2, 0), "v": ("c", "d", 1, 2, 0), "x": ("dawn", "f", 1, 2, 0), "y": ("g", "h", 1, 2, 0)}
        bounds = {"ice": ("d", "off", 20), "stray": ("off", "h", 20), "no": ("h", "off", 20)}
        uses = {"shut": ("s", "a", "b", "closed"), "ice": ("s", "c", "d", "icing"), "still": ("s", "e", "i", "closed"),
                "storm": ("p", "dawn", "f", "closed"), "cold": ("p", "g", "h", "icing"), "stray": ("q", "g", "h", "icing"),
                "cross": ("t", "a", "f", "closed"), "plain": ("u", "g", "h", "k")}
        self.day = Day(Net(lasts, works, bounds), ("p", "q", "s", "t", "u"), uses=uses)
        self.deal = {"p": ("storm", "cold"), "q": ("stray",), "s": ("shut", "ice", "still"), "t": ("cross",), "u": ("plain",)}

    def test_which_uses_are_for_which_function(self):
        right = {longest_closing: {"shut", "storm"}, least_hold: {"ice"}, latest_look: {"shut", "storm", "ice"}}
        judges = {longest_closing: is_longest, least_hold: is_least_hold, latest_look: is_latest}
        odd = ["", "x", "w", "a", None, True, 5, ["shut"], ("shut",), {}, self.day]
        for function, names in right.items():
            for name in [*self.day.uses, *odd]:
                if isinstance(name, str) and name in names:
                    value = function(self.day, self.deal, name)
                    self.assertIsNotNone(value[0])
                    self.assertIs(judges[function](self.day, self.deal, name, value), True)
                else:
                    for call in (lambda: function(self.day, self.deal, name), lambda: judges[function](self.day, self.deal, name, 5)):
                        with self.assertRaises(UnknownName) as caught:
                            call()
                        self.assertTrue(is_same(caught.exception.wanted, name))

    def test_a_work_of_another_name(self):
        number, told, beyond = longest_closing(self.day, self.deal, "shut")
        net = net_of(self.day, self.deal)
        changed = net.with_lengths({"w": (1, number)}).with_lasts({"b": 30 + number - 2})
        self.assertTrue(is_closed(changed, told[1:]))

    def test_errors(self):
        for function in (longest_closing, least_hold, latest_look):
            for day in (None, STAND, 5, {}):
                with self.assertRaises(InvalidDay):
                    function(day, None, None)
            for deal in (None, {}, 5, {"p": ()}):
                with self.assertRaises(InvalidDeal):
                    function(self.day, deal, None)
        for judge in (is_longest, is_least_hold, is_latest):
            with self.assertRaises(InvalidDay):
                judge(None, None, None, None)
            with self.assertRaises(InvalidDeal):
                judge(self.day, None, None, None)

    def test_too_many_bounds(self):
        net = self.day.net.with_bounds({f"b{index:03}": ("a", "b", 50) for index in range(388)})
        full = self.day.with_net(net)
        for function, judge, name in ((longest_closing, is_longest, "shut"), (least_hold, is_least_hold, "ice"),
                                      (latest_look, is_latest, "ice")):
            for call in (lambda: function(full, self.deal, name), lambda: judge(full, self.deal, name, None)):
                with self.assertRaises(TooMany) as caught:
                    call()
                self.assertEqual(caught.exception.limit, 400)
            with self.assertRaises(UnknownName):
                function(full, self.deal, "x")

    def test_judging_accepts_every_value(self):
        for judge, name in ((is_longest, "shut"), (is_least_hold, "ice"), (is_latest, "ice")):
            for value in odd_values():
                for held in (value, (value, None, None), (2, value, None), (2, None, value), (None, None, value), (value,) * 3):
                    self.assertIs(judge(self.day, self.deal, name, held), False)

    def test_all_deals_of_a_day_with_a_closing(self):
        # The deal tells what comes ahead of the closing, and what behind it.
        deals = list(safe_deals(STORM))
        self.assertIn({"s1": ("a", "st", "b")}, deals)
        self.assertIn(DEAL, deals)
        for deal in deals:
            if deal["s1"].index("st") > 0:
                self.assertEqual(longest_closing(STORM, deal, "st")[1][0], "table")


if __name__ == "__main__":
    unittest.main()
