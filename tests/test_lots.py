"""Mends: [19.1] to [19.4]."""

import random
import unittest
from itertools import combinations, product

from dawnway.errors import InvalidNet, InvalidOperation, TooMany
from dawnway.mends import lots
from dawnway.mends.lots import cheapest, conflicts, is_mend_paper, least_mends, left_over, mend_paper, mended
from dawnway.net.nets import Net
from dawnway.rule.rows import is_list
from dawnway.rule.tables import answer, is_closed, is_safe
from tests.helpers import DAY, HARD, are_keys_ascending, crossed_net, odd_values, random_net

NET = Net({"a": 9, "b": 9}, {}, {"early": ("dawn", "a", 3), "late": ("a", "dawn", -5), "gap": ("b", "a", -4), "near": ("dawn", "b", 8)})
PRICES = {"early": 4, "late": 6, "gap": 3}


def small_case(seed):
    """A small net, as a rule not safe, and prices of some of its bounds."""
    rng = random.Random(seed)
    if seed % 3 == 0:
        net = crossed_net(seed, works=2, bounds=4, horizon=9)
    else:
        net = random_net(seed, events=4, works=seed % 3, bounds=6, horizon=7)
    names = sorted(net.bounds)
    priced = rng.sample(names, rng.randint(0, min(5, len(names))))
    return net, {name: rng.choice([0, 1, 1, 2, 3, 5]) for name in priced}


def small_cases(count=90):
    return [small_case(seed) for seed in range(count)]


def all_lots(prices):
    names = sorted(prices)
    return [lot for many in range(len(names) + 1) for lot in combinations(names, many)]


def without(net, lot):
    return Net(net.lasts, net.works, {name: bound for name, bound in net.bounds.items() if name not in lot})


def mending(net, prices):
    """All lots that mend, by looking at all."""
    return [lot for lot in all_lots(prices) if is_safe(without(net, lot))]


def least(given):
    return tuple(sorted(lot for lot in given if not any(set(other) < set(lot) for other in given)))


def plain_conflicts(net, prices):
    """All conflicts, as [19.1] tells them."""
    def kept(lot):
        return is_safe(without(net, [name for name in prices if name not in lot]))

    return tuple(sorted(lot for lot in all_lots(prices)
                        if not kept(lot) and all(kept([other for other in lot if other != name]) for name in lot)))


def cost(prices, lot):
    return sum(prices[name] for name in lot)


def plain_is_bar(net, prices, bar, price):
    """Whether the value is a bar for a cost, as [19.2] tells it."""
    if price > 0 and () not in bar:
        return False
    for lot, lines in bar.items():
        if not is_list(without(net, lot), lines):
            return False
        for _, why in lines:
            if why[0] == "bound" and why[1] in prices:
                longer = tuple(sorted((*lot, why[1])))
                if cost(prices, longer) < price and longer not in bar:
                    return False
    return True


class LotsTest(unittest.TestCase):
    def test_against_all_lots(self):
        seen = set()
        for net, prices in small_cases():
            told = mending(net, prices)
            right = plain_conflicts(net, prices)
            self.assertEqual(conflicts(net, prices), right)
            self.assertEqual(least_mends(net, prices), least(told))
            best = min([cost(prices, lot) for lot in told], default=None)
            expected = None if best is None else (best, tuple(lot for lot in least(told) if cost(prices, lot) == best))
            self.assertEqual(cheapest(net, prices), expected)
            for lot in all_lots(prices):
                self.assertEqual(left_over(net, prices, lot), tuple(c for c in right if not set(c) & set(lot)))
                self.assertEqual(left_over(net, prices, lot) == (), lot in told)
                self.assertEqual(mended(net, lot), without(net, lot))
            seen.add("never" if best is None else "free" if best == 0 and told[0] == () else "mend")
        self.assertEqual(seen, {"never", "free", "mend"})

    def test_what_is_true(self):
        for net, prices in small_cases(60):
            told, against = mending(net, prices), conflicts(net, prices)
            for lot in all_lots(prices):
                self.assertEqual(lot in told, all(set(lot) & set(conflict) for conflict in against))
                if any(set(other) <= set(lot) for other in told):
                    self.assertIn(lot, told)
            meeting = [lot for lot in all_lots(prices) if all(set(lot) & set(other) for other in least_mends(net, prices))]
            if told:
                self.assertEqual(against, least(meeting))

    def test_no_prices_and_the_empty_conflict(self):
        self.assertEqual((conflicts(DAY, {}), least_mends(DAY, {}), cheapest(DAY, {})), ((), ((),), (0, ((),))))
        self.assertEqual((conflicts(HARD, {}), least_mends(HARD, {}), cheapest(HARD, {})), (((),), (), None))
        self.assertEqual(mend_paper(HARD, {})[0], "never")
        self.assertEqual(mend_paper(DAY, {})[:2], ("mend", ()))
        self.assertEqual(left_over(HARD, {}, ()), ((),))
        self.assertEqual((conflicts(NET, {"gap": 3}), left_over(NET, {"gap": 3}, ("gap",))), (((),), ((),)))

    def test_prices_of_0(self):
        prices = {"early": 0, "late": 6, "gap": 0}
        self.assertEqual(cheapest(NET, prices), (0, (("early", "gap"),)))
        self.assertEqual(cheapest(NET, {**prices, "late": 0}), (0, (("early", "gap"), ("late",))))
        kind, lot, told, bar = mend_paper(NET, prices)
        self.assertEqual((kind, lot, told[0], bar), ("mend", ("early", "gap"), "table", {}))

    def test_eight_priced_names_and_nine(self):
        self.assertEqual(lots.MAX_PRICED, 8)
        bounds = {f"b{index}": ("dawn", "a", index) for index in range(9)}
        net = Net({"a": 9}, (), {**bounds, "late": ("a", "dawn", -5)})
        prices = {f"b{index}": index + 1 for index in range(8)}
        self.assertEqual(conflicts(net, prices), tuple((f"b{index}",) for index in range(5)))
        self.assertEqual(cheapest(net, prices), (15, (("b0", "b1", "b2", "b3", "b4"),)))
        paper = mend_paper(net, prices)
        self.assertIs(is_mend_paper(net, prices, paper), True)
        self.assertEqual(set(paper[3]), {lot for lot in all_lots(prices) if set(lot) <= {"b0", "b1", "b2", "b3", "b4"} and len(lot) < 5
                                         and lot in paper[3]})
        prices["b8"] = 3
        for call in (conflicts, least_mends, cheapest, mend_paper, lambda net, prices: left_over(net, prices, ("b0",))):
            with self.assertRaises(TooMany) as caught:
                call(net, prices)
            self.assertEqual(caught.exception.limit, 8)
        self.assertIs(is_mend_paper(net, prices, paper), True)
        self.assertIs(is_mend_paper(net, prices, ("never", ())), False)
        with self.assertRaises(InvalidOperation):
            left_over(net, prices, ("late",))

    def test_what_is_not_true(self):
        # A cheapest lot has a name in common with no other one; what two lots have in common does not mend.
        net = Net({"a": 9}, (), {"x": ("dawn", "a", 3), "y": ("a", "dawn", -5)})
        prices = {"x": 1, "y": 1}
        self.assertEqual(cheapest(net, prices), (1, (("x",), ("y",))))
        self.assertFalse(is_safe(mended(net, ())))
        # To take back the cheapest name of each list leads elsewhere.
        self.assertEqual(cheapest(NET, PRICES), (6, (("late",),)))
        self.assertEqual(cost(PRICES, ("early", "gap")), 7)


class MendPaperTest(unittest.TestCase):
    def test_just_one_kind(self):
        for net, prices in small_cases():
            paper = mend_paper(net, prices)
            told = mending(net, prices)
            self.assertIs(is_mend_paper(net, prices, paper), True)
            self.assertTrue(are_keys_ascending(paper))
            if not told:
                self.assertEqual((paper[0], len(paper)), ("never", 2))
                self.assertTrue(is_list(without(net, prices), paper[1]))
                continue
            kind, lot, table, bar = paper
            best = min(cost(prices, other) for other in told)
            self.assertTrue(kind == "mend" and lot in told and cost(prices, lot) == best)
            self.assertTrue(table[0] == "table" and is_closed(without(net, lot), table[1:]))
            self.assertTrue(plain_is_bar(net, prices, bar, best))

    def test_lots_that_the_program_did_not_choose(self):
        right = 0
        for net, prices in small_cases(70):
            told = mending(net, prices)
            if not told:
                continue
            best = min(cost(prices, other) for other in told)
            # A bar of all lots that do not mend: it is one for each cost of those that do.
            every = {lot: answer(without(net, lot))[1] for lot in all_lots(prices) if lot not in told}
            for lot in all_lots(prices):
                value = ("mend", lot, answer(without(net, lot)), every)
                self.assertEqual(is_mend_paper(net, prices, value), lot in told and cost(prices, lot) == best, (prices, lot))
                right += lot in told and cost(prices, lot) == best
        self.assertGreater(right, 30)

    def test_bars(self):
        kind, lot, table, bar = mend_paper(NET, PRICES)
        self.assertEqual((kind, lot, set(bar)), ("mend", ("late",), {(), *[lot for lot in bar if lot]}))
        self.assertIs(is_mend_paper(NET, PRICES, ("mend", lot, table, {})), False)
        for out in bar:
            left = {other: bar[other] for other in bar if other != out}
            self.assertIs(is_mend_paper(NET, PRICES, ("mend", lot, table, left)), plain_is_bar(NET, PRICES, left, 6))
            self.assertFalse(plain_is_bar(NET, PRICES, left, 6))
            for wrong in ((), bar[out][:-1], None, list(bar[out]), "x"):
                self.assertIs(is_mend_paper(NET, PRICES, ("mend", lot, table, {**bar, out: wrong})), False)
        # Further lots need lists that are right, too.
        further = {**bar, ("early",): answer(without(NET, ("early",)))[1], ("gap",): answer(without(NET, ("gap",)))[1]}
        self.assertIs(is_mend_paper(NET, PRICES, ("mend", lot, table, further)), True)
        for more in (("late",), ("early", "gap"), ("x",), ("near",), ("gap", "early"), "early", 5, ("early", "early"), (1,)):
            self.assertIs(is_mend_paper(NET, PRICES, ("mend", lot, table, {**further, more: bar[()]})), False, more)

    def test_a_cost_that_is_one_too_great(self):
        # The lot that mends with one tick of cost more than the least one has no bar.
        prices = {"early": 4, "late": 6, "gap": 1}
        every = {lot: answer(without(NET, lot))[1] for lot in all_lots(prices) if lot not in mending(NET, prices)}
        best = ("mend", ("early", "gap"), answer(without(NET, ("early", "gap"))), every)
        late = ("mend", ("late",), answer(without(NET, ("late",))), every)
        self.assertEqual((is_mend_paper(NET, prices, best), is_mend_paper(NET, prices, late)), (True, False))
        prices["late"] = 5
        self.assertEqual((is_mend_paper(NET, prices, best), is_mend_paper(NET, prices, late)), (True, True))

    def test_cost_0_with_and_without_the_empty_lot(self):
        prices = {"early": 0, "late": 6, "gap": 0}
        kind, lot, table, _ = mend_paper(NET, prices)
        lines = answer(NET)[1]
        self.assertIs(is_mend_paper(NET, prices, (kind, lot, table, {})), True)
        self.assertIs(is_mend_paper(NET, prices, (kind, lot, table, {(): lines})), True)
        self.assertIs(is_mend_paper(NET, prices, (kind, lot, table, {(): lines[:-1]})), False)
        self.assertIs(is_mend_paper(NET, prices, (kind, lot, table, {("early", "gap"): lines})), False)

    def test_other_lists(self):
        kind, lot, table, bar = mend_paper(NET, PRICES)
        line = (("bound", "a", "dawn", 0), ("begin", "a"))
        longer = {key: (line, *[(row, tuple(p if isinstance(p, str) else p + 1 for p in why)) for row, why in bar[key]]) for key in bar}
        self.assertIs(is_mend_paper(NET, PRICES, (kind, lot, table, longer)), True)
        # A line that names one bound more, on which nothing hangs, asks for one lot more.
        line = (("bound", "b", "a", -4), ("bound", "gap"))
        named = {**bar, (): (line, *[(row, tuple(p if isinstance(p, str) else p + 1 for p in why)) for row, why in bar[()]])}
        self.assertEqual(is_mend_paper(NET, PRICES, (kind, lot, table, named)), plain_is_bar(NET, PRICES, named, 6))
        both = {**named, ("gap",): answer(without(NET, ("gap",)))[1], ("early",): answer(without(NET, ("early",)))[1]}
        self.assertIs(is_mend_paper(NET, PRICES, (kind, lot, table, both)), True)
        for out in (("gap",), ("early",)):
            left = {other: both[other] for other in both if other != out}
            self.assertIs(is_mend_paper(NET, PRICES, (kind, lot, table, left)), plain_is_bar(NET, PRICES, left, 6))

    def test_one_thing_wrong(self):
        kind, lot, table, bar = mend_paper(NET, PRICES)
        for value in (None, (), ("mend",), (kind, lot, table), [kind, lot, table, bar], (kind, lot, table[1:], bar), (kind, lot, None, bar),
                      (kind, list(lot), table, bar), (kind, ("early",), table, bar), (kind, ("late", "near"), table, bar), (kind, None, table, bar),
                      (kind, lot, ("list", answer(NET)[1]), bar), (kind, lot, table, None), (kind, lot, table, ()), ("never", answer(NET)[1]),
                      (kind, lot, table, bar, 1), ("never", lot, table, bar), (kind, (), table, bar)):
            self.assertIs(is_mend_paper(NET, PRICES, value), False)
        never = mend_paper(NET, {"gap": 3})
        self.assertIs(is_mend_paper(NET, {"gap": 3}, never), True)
        for value in (("never",), ("never", never[1][:-1]), ["never", never[1]], ("never", never[1], 1), ("mend", never[1]), ("never", None)):
            self.assertIs(is_mend_paper(NET, {"gap": 3}, value), False)
        # A list that uses a priced bound is none without it.
        self.assertIs(is_mend_paper(NET, {"gap": 3, "early": 1, "late": 1}, ("never", never[1])), False)

    def test_judging_accepts_every_value(self):
        kind, lot, table, bar = mend_paper(NET, PRICES)
        for value in odd_values():
            held = [value, ("never", value), ("mend", value, table, bar), (kind, lot, value, bar), (kind, lot, table, {(): value})]
            if value != {}:
                held.append((kind, lot, table, value))
            for one in held:
                self.assertIs(is_mend_paper(NET, PRICES, one), False)


class LotErrorsTest(unittest.TestCase):
    def test_prices(self):
        wrong = [None, (), [], 5, "early", {"x": 1}, {"early": -1}, {"early": True}, {"early": None}, {"early": "1"}, {1: 1},
                 {"early": 10 ** 40}, {"a": 1}, {"dawn": 1}, {("early",): 1}]
        for prices in wrong:
            for call in (conflicts, least_mends, cheapest, mend_paper, lambda net, prices: is_mend_paper(net, prices, None),
                         lambda net, prices: left_over(net, prices, None)):
                with self.assertRaises(InvalidOperation, msg=prices):
                    call(NET, prices)
                with self.assertRaises(InvalidNet):
                    call(None, prices)
        self.assertEqual(cheapest(NET, {"late": 10 ** 40 - 1}), (10 ** 40 - 1, (("late",),)))

    def test_nine_priced_names_that_are_none(self):
        with self.assertRaises(InvalidOperation):
            conflicts(NET, {f"x{index}": 1 for index in range(9)})

    def test_lots(self):
        for lot in (None, [], "late", 5, ("x",), ("late", "early"), ("late", "late"), ("late", 1), (None,), ("a",), {}, NET):
            with self.assertRaises(InvalidOperation):
                mended(NET, lot)
            with self.assertRaises(InvalidOperation):
                left_over(NET, PRICES, lot)
            with self.assertRaises(InvalidNet):
                mended(None, lot)
        self.assertEqual(mended(NET, ("near",)), NET.without("near"))
        self.assertEqual(mended(NET, ()), NET)
        with self.assertRaises(InvalidOperation):
            left_over(NET, PRICES, ("near",))

    def test_the_prices_turned_about(self):
        for order in product([1, -1], repeat=2):
            prices = dict(list(PRICES.items())[::order[0]])
            self.assertEqual(conflicts(NET, prices), conflicts(NET, PRICES))
            self.assertEqual(mend_paper(NET, prices), mend_paper(NET, PRICES))


if __name__ == "__main__":
    unittest.main()
