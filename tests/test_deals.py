"""Safe deals and trees of cases: [12.1] to [12.7], stage 12."""

import random
import unittest
from itertools import combinations, permutations, product

from dawnway.errors import InvalidDay, InvalidDeal, InvalidOperation, TooMany
from dawnway.net.nets import Net
from dawnway.parts import deals
from dawnway.parts.days import Day, clashes, deal_by, is_deal, net_of, torn_uses
from dawnway.parts.deals import (
    deal_paper, is_deal_paper, is_safe, is_tree, net_of_case, open_pairs, safe_deals,
)
from dawnway.play.plays import each_course
from dawnway.rule.rows import is_list
from dawnway.rule.tables import answer, closure, is_closed
from dawnway.walk.walks import walked
from tests.helpers import PLACED, STAND, are_keys_ascending, is_same, odd_values

NARROW = PLACED.with_net(Net({"ina": 1, "inb": 1, "outa": 4, "outb": 4}, {}, STAND.bounds))
FIRSTB = PLACED.with_net(Net({"ina": 9, "inb": 1, "outa": 20, "outb": 9}, {}, STAND.bounds))
HEAD = (
    (("bound", "dawn", "inb", 1), ("last", "inb")), (("bound", "inb", "outa", -2), ("bound", "case.0")),
    (("bound", "dawn", "outa", -1), ("joined", 0, 1)),
)
AHEAD = (*HEAD, (("bound", "outa", "dawn", 0), ("begin", "outa")), (("bound", "dawn", "dawn", -1), ("joined", 2, 3)))
BEHIND = (
    (("bound", "dawn", "ina", 1), ("last", "ina")), (("bound", "ina", "outb", 0), ("bound", "case.0")),
    (("bound", "outb", "inb", -2), ("bound", "stayb")), (("bound", "ina", "inb", -2), ("joined", 1, 2)),
    (("bound", "dawn", "inb", -1), ("joined", 0, 3)), (("bound", "inb", "dawn", 0), ("begin", "inb")),
    (("bound", "dawn", "dawn", -1), ("joined", 4, 5)),
)
TREE = ("case", "a", "b", ("leaf", AHEAD), ("leaf", BEHIND))


def small_day(seed, *, uses=3, places=2, last=8, works=True):
    """A small day whose uses take some ticks, by works or bounds; some have a first event that a flight ends."""
    rng = random.Random(seed)
    lasts, told, works_told, bounds = {}, {}, {}, {}
    for index in range(uses):
        first, end = f"a{index}", f"z{index}"
        lasts[first], lasts[end] = rng.randint(1, last), rng.randint(last // 2, last + 2)
        begin = first
        if index == 0 and rng.random() < 0.1:
            begin = "dawn"
            del lasts[first]
        told[f"u{index}"] = (f"p{rng.randrange(places)}", begin, end, rng.choice("kl"))
        kind = rng.random()
        if works and kind < 0.4 and len(works_told) < 3:
            least = rng.randint(1, 2)
            works_told[f"w{index}"] = (begin, end, least, least + rng.randint(0, 2), rng.choice([0, 0, 1, 2]))
        else:
            bounds[f"stay{index}"] = (end, begin, -rng.randint(0, 3))
        if works and begin != "dawn" and rng.random() < 0.3 and len(works_told) < 3:
            works_told[f"f{index}"] = ("dawn", first, 1, rng.randint(1, 3), 0)
            lasts[first] = max(lasts[first], 3)
        if begin != "dawn" and rng.random() < 0.3:
            bounds[f"go{index}"] = (first, "dawn", -rng.randint(0, 3))
    gaps = {(f"p{place}", "k", "l"): rng.randint(0, 1) for place in range(places)
            if {use[3] for use in told.values() if use[0] == f"p{place}"} == {"k", "l"}}
    return Day(Net(lasts, works_told, bounds), tuple(f"p{place}" for place in range(places)), uses=told, gaps=gaps)


def small_days(count=80):
    return [small_day(seed, uses=2 + seed % 3, places=1 + seed % 2, last=4 + seed % 5) for seed in range(count)]


def all_deals(day):
    lots = [list(permutations(day.uses_of(place))) for place in day.places]
    return [dict(zip(day.places, sequences)) for sequences in product(*lots)]


def right_deals(day):
    """The safe deals, by looking at all deals, in their sequence."""
    return [deal for deal in all_deals(day) if closure(net_of(day, deal)) is not None]


def pairs_of(day):
    return [(one, other) for one, other in combinations(day.uses, 2) if day.uses[one][0] == day.uses[other][0]]


def case_net(day, case):
    """The net of a case, bound by bound."""
    bounds = {}
    for index, name in enumerate(sorted(day.uses)):
        bounds[f"use.{index}"] = (day.uses[name][2], day.uses[name][1], 0)
    for index, (one, other) in enumerate(case):
        bounds[f"case.{index}"] = (day.uses[other][1], day.uses[one][2], -day.gap(one, other))
    return day.net.with_bounds(bounds)


def plain_tree(day, value, case=()):
    """Whether the value is a tree at a case, as [12.3] tells it."""
    if not isinstance(value, tuple):
        return False
    if len(value) == 2 and value[0] == "leaf":
        return is_list(case_net(day, case), value[1])
    if len(value) != 5 or value[0] != "case" or (value[1], value[2]) not in pairs_of(day):
        return False
    one, other = value[1:3]
    if (one, other) in case or (other, one) in case:
        return False
    return plain_tree(day, value[3], (*case, (one, other))) and plain_tree(day, value[4], (*case, (other, one)))


def trees_in(value):
    """All parts of a tree."""
    return [value] if value[0] == "leaf" else [value, *trees_in(value[3]), *trees_in(value[4])]


class CaseTest(unittest.TestCase):
    def test_constant(self):
        self.assertEqual(deals.MAX_OPEN, 10)

    def test_the_net_of_a_case(self):
        for seed, day in enumerate(small_days(40)):
            rng = random.Random(seed)
            pairs = pairs_of(day) + [pair[::-1] for pair in pairs_of(day)]
            for many in range(4):
                case = tuple(rng.choice(pairs) for _ in range(many)) if pairs else ()
                self.assertTrue(net_of_case(day, case) == case_net(day, case))
        bounds = net_of_case(PLACED, (("a", "b"), ("b", "a"), ("a", "b"))).bounds
        self.assertEqual([bounds[f"case.{index}"] for index in range(3)], [("inb", "outa", -2), ("ina", "outb", 0), ("inb", "outa", -2)])
        self.assertEqual([bounds[f"use.{index}"] for index in range(2)], [("outa", "ina", 0), ("outb", "inb", 0)])
        self.assertTrue(net_of_case(PLACED, ()) == STAND.with_bounds({"use.0": ("outa", "ina", 0), "use.1": ("outb", "inb", 0)}))

    def test_what_is_no_case(self):
        day = Day(STAND, ("s1", "s2"), uses={**PLACED.uses, "c": ("s2", "inb", "outb", "small")})
        for case in (*[value for value in odd_values() if value != ()], (("a", "a"),), (("a", "c"),), (("a", "x"),), ("a", "b"),
                     (("a", "b", "a"),), [("a", "b")], (["a", "b"],), (("a", "b"), None), (("a", None),), (("a", ["b"]),), ((1, 2),),
                     (("a", "b"),) * 61, (("a", "s1"),)):
            with self.assertRaises(InvalidOperation, msg=case):
                net_of_case(day, case)
            with self.assertRaises(InvalidOperation, msg=case):
                is_tree(day, None, case=case)
        self.assertEqual(len(net_of_case(day, (("a", "b"),) * 60).bounds), 65)
        self.assertIs(is_tree(day, None, case=(("a", "b"),) * 60), False)

    def test_400_bounds_and_401(self):
        for many in (338, 339):
            day = PLACED.with_net(STAND.with_bounds({f"b{index}": ("ina", "inb", 40) for index in range(many - 2)}))
            case = (("a", "b"),) * 60
            if many == 338:
                self.assertEqual(len(net_of_case(day, case).bounds), 400)
            else:
                with self.assertRaises(TooMany) as caught:
                    net_of_case(day, case)
                self.assertEqual(caught.exception.limit, 400)

    def test_400_bounds_of_all_pairs(self):
        # 3 uses of one place have 3 pairs; a pair that stands in the case does not count once more.
        lasts = {f"e{index}": 9 for index in range(6)}
        uses = {f"u{index}": ("p", f"e{2 * index}", f"e{2 * index + 1}", "k") for index in range(3)}
        deal = {"p": ("u0", "u1", "u2")}
        for many, right in ((394, True), (395, False)):
            net = Net(lasts, (), {f"b{index}": ("e0", "e1", 9) for index in range(many)})
            day = Day(net, ("p",), uses=uses)
            asks = (lambda: is_safe(day, deal), lambda: open_pairs(day), lambda: deal_paper(day), lambda: is_deal_paper(day, None),
                    lambda: is_tree(day, None), lambda: list(safe_deals(day)), lambda: is_tree(day, None, case=(("u1", "u0"),)),
                    lambda: is_deal_paper(day, ("deal", deal, {}, {})))
            for ask in asks:
                if right:
                    ask()
                else:
                    with self.assertRaises(TooMany) as caught:
                        ask()
                    self.assertEqual(caught.exception.limit, 400)
            self.assertEqual(len(net_of_case(day, (("u0", "u1"),) * 2).bounds), many + 5)
            for case, fits in (((("u0", "u1"), ("u0", "u1")), right and many + 3 + 4 <= 400), ((("u0", "u1"), ("u1", "u2")), right)):
                if fits:
                    self.assertIs(is_tree(day, None, case=case), False)
                else:
                    with self.assertRaises(TooMany):
                        is_tree(day, None, case=case)

    def test_errors_in_their_order(self):
        wide = PLACED.with_net(STAND.with_bounds({f"b{index}": ("ina", "inb", 40) for index in range(396)}))
        for value in odd_values():
            if not isinstance(value, Day):
                for ask in (lambda: net_of_case(value, None), lambda: is_safe(value, None), lambda: open_pairs(value),
                            lambda: deal_paper(value), lambda: is_deal_paper(value, None), lambda: is_tree(value, None, case=None),
                            lambda: next(safe_deals(value))):
                    with self.assertRaises(InvalidDay):
                        ask()
            with self.assertRaises(InvalidDeal):
                is_safe(wide, value)
        with self.assertRaises(InvalidOperation):
            is_tree(wide, None, case=None)
        self.assertEqual(len(net_of_case(wide, ()).bounds), 400)
        with self.assertRaises(TooMany):
            is_tree(wide, None)


class SafeDealsTest(unittest.TestCase):
    def test_against_all_deals(self):
        many = {}
        for day in small_days():
            right = right_deals(day)
            found = list(safe_deals(day))
            self.assertTrue(is_same(found, right))
            for deal in all_deals(day):
                self.assertIs(is_safe(day, deal), deal in right)
            many[min(len(right), 2)] = many.get(min(len(right), 2), 0) + 1
        self.assertTrue(all(many[number] > 8 for number in (0, 1, 2)))

    def test_uses_without_length(self):
        # All of them can come at one tick, in any sequence.
        lasts = {event: 0 for event in ("a", "b", "c", "d")}
        uses = {f"u{index}": ("p", one, other, "k") for index, (one, other) in enumerate((("a", "b"), ("c", "d"), ("a", "d")))}
        day = Day(Net(lasts), ("p",), uses=uses)
        self.assertEqual(list(safe_deals(day)), all_deals(day))
        self.assertEqual(deal_paper(day)[0], "deal")
        self.assertIs(is_deal_paper(day, deal_paper(day)), True)
        self.assertEqual(open_pairs(day), (("u0", "u1"), ("u0", "u2"), ("u1", "u2")))

    def test_no_uses(self):
        self.assertEqual(list(safe_deals(Day(STAND, ("p", "q")))), [{"p": (), "q": ()}])
        self.assertEqual(list(safe_deals(Day(STAND, ()))), [{}])
        self.assertEqual(deal_paper(Day(STAND, ())), ("deal", {}, *closure(STAND)))
        hard = STAND.with_lasts({"outa": 2})
        for day in (Day(hard, ("p",)), PLACED.with_net(hard)):
            self.assertEqual(list(safe_deals(day)), [])
            kind, tree = deal_paper(day)
            self.assertEqual((kind, tree[0]), ("tree", "leaf"))
            self.assertIs(is_deal_paper(day, (kind, tree)), True)
            self.assertEqual(open_pairs(day), ())

    def test_a_generator(self):
        found = safe_deals(PLACED)
        first = next(found)
        first.clear()
        self.assertEqual(next(found), {"s1": ("b", "a")})
        wrong = safe_deals(None)
        with self.assertRaises(InvalidDay):
            next(wrong)

    def wide_day(self, pairs, *, safe=True):
        """A day with so many open pairs, each on a place of its own."""
        lasts, uses = {}, {}
        for index in range(pairs):
            for name in "ab":
                lasts[f"{name}in{index}"], lasts[f"{name}out{index}"] = 9, 9
                uses[f"{name}{index}"] = (f"p{index:02}", f"{name}in{index}", f"{name}out{index}", "k")
        net = Net(lasts, (), {f"{name}s{index}": (f"{name}out{index}", f"{name}in{index}", -4) for index in range(pairs) for name in "ab"})
        if not safe:
            # Whoever goes first on the first place cannot be told by each pair alone.
            net = net.with_bounds({"x": ("ain0", "ain1", -1), "y": ("bin0", "bin1", -5), "z": ("bin1", "ain1", 1), "v": ("ain1", "bin1", 1)})
        return Day(net, tuple(f"p{index:02}" for index in range(pairs)), uses=uses)

    def test_ten_open_pairs_and_eleven(self):
        day = self.wide_day(11)
        self.assertEqual(len(open_pairs(day)), 11)
        generated = safe_deals(day)
        for ask in (lambda: deal_paper(day), lambda: next(generated)):
            with self.assertRaises(TooMany) as caught:
                ask()
            self.assertEqual(caught.exception.limit, 10)
        deal = {place: day.uses_of(place) for place in day.places}
        self.assertIs(is_safe(day, deal), True)
        self.assertIs(is_deal_paper(day, ("deal", deal, *closure(net_of(day, deal)))), True)
        day = self.wide_day(10)
        self.assertEqual(len(open_pairs(day)), 10)
        self.assertEqual(deal_paper(day)[0], "deal")
        self.assertEqual(len(list(safe_deals(day))), 1024)

    def test_ten_open_pairs_and_no_safe_deal(self):
        lasts, uses, bounds = {"x": 13}, {}, {}
        for index in range(5):
            lasts[f"in{index}"], lasts[f"out{index}"] = 9, 13
            uses[f"u{index}"] = ("p", f"in{index}", f"out{index}", "k")
            bounds[f"s{index}"] = (f"out{index}", f"in{index}", -3)
        day = Day(Net(lasts, (), bounds), ("p",), uses=uses)
        self.assertEqual(len(open_pairs(day)), 10)
        self.assertEqual(list(safe_deals(day)), [])
        told = deal_paper(day)
        self.assertEqual(told[0], "tree")
        self.assertIs(is_deal_paper(day, told), True)


class OpenPairsTest(unittest.TestCase):
    def test_against_the_nets_of_single_cases(self):
        kinds = {}
        for day in small_days():
            right = []
            for pair in pairs_of(day):
                ways = tuple(closure(case_net(day, (way,))) is not None for way in (pair, pair[::-1]))
                kinds[ways] = kinds.get(ways, 0) + 1
                if ways == (True, True):
                    right.append(pair)
            self.assertEqual(open_pairs(day), tuple(right))
        self.assertTrue(all(kinds[ways] > 4 for ways in product((True, False), repeat=2)))

    def test_safe_deals_have_pairs_that_are_not_open_as_they_can_stand(self):
        for day in small_days():
            found = list(safe_deals(day))
            for one, other in pairs_of(day):
                ahead = closure(case_net(day, ((one, other),))) is not None
                behind = closure(case_net(day, ((other, one),))) is not None
                for deal in found:
                    sequence = deal[day.uses[one][0]]
                    self.assertTrue(ahead if sequence.index(one) < sequence.index(other) else behind)

    def test_each_pair_can_go_one_way_and_no_deal_is_safe(self):
        lasts = {"ina": 3, "inb": 3, "inc": 3, "outa": 9, "outb": 9, "outc": 9}
        stays = {f"s{name}": (f"out{name}", f"in{name}", -2) for name in "abc"}
        day = Day(Net(lasts, (), stays), ("p",), uses={name: ("p", f"in{name}", f"out{name}", "k") for name in "abc"})
        self.assertEqual(len(open_pairs(day)), 3)
        self.assertEqual(list(safe_deals(day)), [])
        kind, tree = deal_paper(day)
        self.assertEqual(kind, "tree")
        self.assertIs(plain_tree(day, tree), True)


class DealPaperTest(unittest.TestCase):
    def test_exactly_one_kind(self):
        kinds = {}
        for day in small_days():
            right = right_deals(day)
            told = deal_paper(day)
            self.assertEqual(told[0], "deal" if right else "tree")
            self.assertIs(is_deal_paper(day, told), True)
            self.assertTrue(is_same(told, deal_paper(day)))
            if right:
                self.assertIn(told[1], right)
                self.assertIs(is_closed(net_of(day, told[1]), told[2:]), True)
                self.assertTrue(are_keys_ascending(told))
                for tree in (("leaf", ()), ("leaf", AHEAD), *[("case", *pair, ("leaf", ()), ("leaf", ())) for pair in pairs_of(day)]):
                    self.assertIs(is_deal_paper(day, ("tree", tree)), False)
            else:
                self.assertEqual(len(told), 2)
                self.assertIs(plain_tree(day, told[1]), True)
                self.assertIs(is_tree(day, told[1]), True)
            for deal in all_deals(day):
                table = closure(net_of(day, deal))
                for bounds, waits in (table or ({}, {}), ({}, {})):
                    self.assertIs(is_deal_paper(day, ("deal", deal, bounds, waits)), (bounds, waits) == table)
            kinds[told[0]] = kinds.get(told[0], 0) + 1
        self.assertTrue(min(kinds.values()) > 15)

    def test_papers_by_hand(self):
        self.assertIs(is_deal_paper(NARROW, ("tree", TREE)), True)
        self.assertIs(is_deal_paper(PLACED, ("tree", TREE)), False)
        deal = {"s1": ("b", "a")}
        bounds, waits = closure(net_of(FIRSTB, deal))
        self.assertIs(is_deal_paper(FIRSTB, ("deal", deal, bounds, waits)), True)
        self.assertIs(is_deal_paper(FIRSTB, ("deal", deal, {**bounds, ("ina", "inb"): -3}, waits)), False)
        for value in (*odd_values(), ("deal", deal, bounds), ("deal", deal, bounds, waits, {}), ["deal", deal, bounds, waits],
                      ("deal", {"s1": ("a", "b")}, bounds, waits), ("deals", deal, bounds, waits), ("deal", None, bounds, waits),
                      ("deal", deal, None, waits), ("deal", deal, bounds, None), ("deal", (bounds, waits), {}, {})):
            self.assertIs(is_deal_paper(FIRSTB, value), False)
        for value in (("tree",), ("tree", TREE, ()), ["tree", TREE], ("trees", TREE), TREE, ("tree", None), (None, TREE)):
            self.assertIs(is_deal_paper(NARROW, value), False)
        for value in odd_values():
            self.assertIs(is_deal_paper(NARROW, ("tree", value)), False)
            self.assertIs(is_deal_paper(NARROW, ("deal", value, {}, {})), False)
            self.assertIs(is_deal_paper(NARROW, value), False)

    def test_another_table_of_the_deal(self):
        deal = {"s1": ("a", "b")}
        net = net_of(PLACED, deal)
        told = closure(net.with_lasts({"ina": 3}))
        self.assertNotEqual(told, closure(net))
        self.assertIs(is_deal_paper(PLACED, ("deal", deal, *told)), True)


class TreeTest(unittest.TestCase):
    def test_trees_at_no_case(self):
        self.assertIs(is_tree(NARROW, TREE), True)
        self.assertIs(is_tree(NARROW, TREE, case=()), True)
        first, second = TREE[3:]
        for value in (("case", "b", "a", first, second), ("case", "b", "a", second, first), ("case", "a", "b", second, first),
                      ("case", "a", "a", first, second), ("case", "a", "x", first, second), ("case", "a", "b", first),
                      ("case", "a", "b", first, second, ()), ["case", "a", "b", first, second], ("cases", "a", "b", first, second),
                      ("case", "a", None, first, second), ("case", ["a"], "b", first, second), ("case", "a", "b", first, None),
                      ("case", "a", "b", TREE, second), ("case", "a", "b", ("leaf", AHEAD[:-1]), second), ("leaf", AHEAD),
                      ("leaf", AHEAD, ()), ("leaf",), (), None, "leaf", ("leaf", None), ("leaf", [*AHEAD]), first, ("case", "a", "b", first, AHEAD)):
            self.assertIs(is_tree(NARROW, value), False, value)
        for value in odd_values():
            self.assertIs(is_tree(NARROW, value), False)
            self.assertIs(is_tree(NARROW, ("leaf", value)), False)
            self.assertIs(is_tree(NARROW, ("case", "a", "b", value, second)), False)
            self.assertIs(is_tree(NARROW, ("case", value, "b", first, second)), value == "a")
            self.assertIs(is_tree(NARROW, ("case", "a", value, first, second)), False)

    def test_trees_at_other_cases(self):
        first, second = TREE[3:]
        self.assertIs(is_tree(NARROW, first, case=(("a", "b"),)), True)
        self.assertIs(is_tree(NARROW, second, case=(("b", "a"),)), True)
        self.assertIs(is_tree(NARROW, second, case=(("a", "b"),)), False)
        self.assertIs(is_tree(NARROW, first, case=()), False)
        for case in ((("a", "b"),), (("b", "a"),), (("a", "b"), ("b", "a"))):
            self.assertIs(is_tree(NARROW, TREE, case=case), False)
        self.assertIs(is_tree(NARROW, first, case=(("a", "b"), ("b", "a"))), True)
        self.assertIs(is_tree(NARROW, first, case=(("b", "a"), ("a", "b"))), False)
        self.assertIs(is_tree(NARROW, second, case=(("b", "a"), ("a", "b"))), True)
        self.assertIs(is_tree(NARROW, first, case=(("a", "b"),) * 60), True)

    def test_parts_of_trees(self):
        turned = 0
        for day in small_days(200):
            if list(safe_deals(day)) != []:
                continue
            _, tree = deal_paper(day)
            for part in trees_in(tree):
                if part[0] == "case":
                    other = ("case", *part[1:3], part[4], part[3])
                    whole = self.replaced(tree, part, other)
                    self.assertIs(is_tree(day, whole), plain_tree(day, whole))
                    turned += not plain_tree(day, whole)
                    doubled = self.replaced(tree, part, ("case", *part[1:3], part, part[4]))
                    self.assertIs(is_tree(day, doubled), False)
                    greater = self.replaced(tree, part, ("case", part[2], part[1], part[4], part[3]))
                    self.assertIs(is_tree(day, greater), False)
                else:
                    shorter = self.replaced(tree, part, ("leaf", part[1][:-1]))
                    self.assertIs(is_tree(day, shorter), False)
        self.assertGreater(turned, 20)

    def replaced(self, tree, part, other):
        if tree is part:
            return other
        if tree[0] == "leaf":
            return tree
        return (*tree[:3], self.replaced(tree[3], part, other), self.replaced(tree[4], part, other))

    def test_branches_that_are_not_needed(self):
        # The leaf of each branch has the list of the net without its case.
        hard = STAND.with_lasts({"outa": 2})
        day = PLACED.with_net(hard)
        leaf = ("leaf", answer(case_net(day, ()))[1])
        self.assertIs(is_tree(day, leaf), True)
        branches = ("case", "a", "b", leaf, leaf)
        self.assertIs(is_tree(day, branches), True)
        for case in ((("a", "b"),), (("b", "a"),)):
            self.assertIs(is_tree(day, leaf, case=case), True)
            self.assertIs(is_tree(day, branches, case=case), False)
        for part in (("leaf", leaf[1], ()), ("leaf",), ("leaves", leaf[1]), [*leaf]):
            self.assertIs(is_tree(day, part), False)

    def test_many_pairs_that_can_go_one_way_alone(self):
        lasts, bounds, uses = {}, {}, {}
        for index in range(20):
            first, last = f"in{index:02}", f"out{index:02}"
            lasts[first], lasts[last] = 3 * index + 1, 3 * index + 99
            bounds[f"s{index}"] = (last, first, -2)
            bounds[f"b{index}"] = (first, "dawn", -3 * index)
            uses[f"u{index:02}"] = ("p", first, last, "k")
        day = Day(Net(lasts, (), bounds), ("p",), uses=uses)
        self.assertEqual(open_pairs(day), ())
        self.assertEqual(list(safe_deals(day)), [{"p": tuple(uses)}])
        self.assertEqual(deal_paper(day)[:2], ("deal", {"p": tuple(uses)}))
        hard = day.with_net(day.net.with_bounds({"s7": ("out07", "in07", -4)}).with_lasts({"in07": 21, "in08": 24}))
        told = deal_paper(hard)
        self.assertEqual((told[0], is_deal_paper(hard, told), list(safe_deals(hard))), ("tree", True, []))

    def test_a_deep_tree(self):
        lasts, uses = {"hard": 2}, {}
        for index in range(28):
            lasts[f"in{index:02}"], lasts[f"out{index:02}"] = 99, 99
            uses[f"u{index:02}"] = ("p", f"in{index:02}", f"out{index:02}", "k")
        day = Day(Net(lasts, (), {"never": ("hard", "dawn", -3)}), ("p",), uses={name: uses[name] for name in list(uses)[:26]})
        leaf = ("leaf", answer(case_net(day, ()))[1])
        tree = leaf
        pairs = pairs_of(day)
        self.assertEqual(len(pairs), 325)
        for one, other in pairs:
            tree = ("case", one, other, tree, leaf)
        self.assertIs(is_tree(day, tree), True)
        self.assertIs(is_deal_paper(day, ("tree", tree)), True)
        self.assertIs(is_tree(day, ("case", *pairs[0], tree, leaf)), False)
        with self.assertRaises(TooMany):
            is_tree(Day(day.net, ("p",), uses=uses), tree)


class StatementsTest(unittest.TestCase):
    def test_easier_days_have_the_safe_deals(self):
        for seed, day in enumerate(small_days(60)):
            found = list(safe_deals(day))
            rng = random.Random(seed)
            if not found:
                continue
            net = day.net
            easier = [day.with_net(net.without(name)) for name in net.bounds]
            easier += [day.with_net(net.with_lasts({event: last + 2})) for event, last in net.lasts.items()]
            easier += [day.with_net(net.with_lengths({work: (length, length)})) for work, (_, _, *ends, _) in net.works.items() for length in ends]
            easier.append(Day(net, day.places, uses=day.uses))
            for other in easier:
                then = list(safe_deals(other))
                self.assertTrue(all(deal in then for deal in found))
            name = rng.choice(list(day.uses))
            fewer = {use: day.uses[use] for use in day.uses if use != name}
            kinds = [(use[0], use[3]) for use in fewer.values()]
            gaps = {key: gap for key, gap in day.gaps.items() if (key[0], key[1]) in kinds and (key[0], key[2]) in kinds}
            then = list(safe_deals(Day(net, day.places, uses=fewer, gaps=gaps)))
            for deal in found:
                self.assertIn({place: tuple(use for use in deal[place] if use != name) for place in deal}, then)

    def test_walks_of_safe_deals_tear_nothing_and_clash_nowhere(self):
        plays = 0
        for day in small_days(120):
            for deal in list(safe_deals(day))[:3]:
                net = net_of(day, deal)
                for course in list(each_course(net))[:20]:
                    ticks = walked(net, *closure(net), course).times
                    self.assertEqual((torn_uses(day, ticks), clashes(day, ticks)), ((), ()))
                    self.assertIs(is_deal(day, deal_by(day, ticks)), True)
                    plays += 1
        self.assertGreater(plays, 100)

    def test_a_day_kept_by_who_comes_first(self):
        # Both flights can come first: whoever looks can let the first one in, and no deal is safe.
        net = Net(
            {"ina": 9, "inb": 9, "outa": 12, "outb": 12},
            {"flya": ("dawn", "ina", 1, 6, 0), "flyb": ("dawn", "inb", 1, 6, 0)},
            {"qa": ("ina", "outa", 1), "qb": ("inb", "outb", 1)},
        )
        day = Day(net, ("p",), uses={"a": ("p", "ina", "outa", "k"), "b": ("p", "inb", "outb", "k")})
        self.assertEqual(list(safe_deals(day)), [])
        self.assertEqual(deal_paper(day)[0], "tree")


if __name__ == "__main__":
    unittest.main()
