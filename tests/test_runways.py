"""Runways: [16.1] to [16.5]."""

import random
import unittest
from itertools import combinations, permutations

from dawnway.errors import InvalidDay, InvalidNumber, InvalidOperation, TooMany
from dawnway.parts import runways
from dawnway.parts.runways import Runway
from tests.helpers import are_keys_ascending, is_same, odd_values

GAPS = {("jet", "jet"): 2, ("jet", "prop"): 4, ("prop", "jet"): 1, ("prop", "prop"): 2}
MOVES = {"a": ("jet", 0, 9), "b": ("prop", 0, 9), "c": ("jet", 3, 4)}
RUNWAY = Runway(MOVES, GAPS)


def small_runway(seed, moves=3):
    """A small runway; its gaps keep the triangle."""
    rng = random.Random(seed)
    kinds = "klm"[:rng.randint(1, 3)]
    told = {}
    for name in "abcde"[:moves]:
        first = rng.randint(0, 6)
        told[name] = (rng.choice(kinds), first, first + rng.randint(0, 9))
    used = sorted({move[0] for move in told.values()})
    gaps = {(one, other): rng.randint(0, 4) for one in used for other in used}
    for mid in used:
        for one in used:
            for other in used:
                gaps[(one, other)] = min(gaps[(one, other)], gaps[(one, mid)] + gaps[(mid, other)])
    return Runway(told, gaps)


def small_runways(count=60):
    return [small_runway(seed, moves=seed % 5) for seed in range(count)]


def plain_ticks(runway, sequence):
    """The ticks of a sequence, as [16.2] tells them."""
    ticks, last = {}, None
    for name in sequence:
        kind, first, until = runway.moves[name]
        ticks[name] = first
        if last is not None:
            ticks[name] = max(first, ticks[last] + runway.gaps[(runway.moves[last][0], kind)])
        if ticks[name] > until:
            return None
        last = name
    return ticks


def fitting_ends(runway):
    """The sequences that fit, ascending, with their ends."""
    found = []
    for sequence in permutations(sorted(runway.moves)):
        ticks = plain_ticks(runway, sequence)
        if ticks is not None:
            found.append((sequence, ticks[sequence[-1]] if sequence else 0))
    return found


def plain_is_table(runway, tick, table):
    """Whether the value is a closed table that shows that no sequence ends by the tick."""
    moves, gaps = runway.moves, runway.gaps
    if not moves:
        return False
    for (names, kind), at in table.items():
        if kind not in [moves[name][0] for name in names] or at < 0:
            return False
        if len(names) == len(moves) and at <= tick:
            return False
        for name in set(moves) - set(names):
            asked = max(moves[name][1], at + gaps[(kind, moves[name][0])])
            longer = (tuple(sorted((*names, name))), moves[name][0])
            if asked <= moves[name][2] and (longer not in table or table[longer] > asked):
                return False
    return all(((name,), move[0]) in table and table[((name,), move[0])] <= move[1] for name, move in moves.items())


class RunwayTest(unittest.TestCase):
    def test_constant_and_properties(self):
        self.assertEqual(runways.MAX_MOVES, 12)
        turned = Runway(dict(reversed(MOVES.items())), dict(reversed(GAPS.items())))
        self.assertEqual((turned.moves, turned.gaps, turned.names), (MOVES, GAPS, ("a", "b", "c")))
        self.assertEqual((list(turned.moves), list(turned.gaps)), (sorted(MOVES), sorted(GAPS)))
        self.assertTrue(turned == RUNWAY)
        self.assertFalse(turned != RUNWAY)
        self.assertEqual((len(RUNWAY), str(RUNWAY), str(Runway({}, {}))), (3, "runway with 3 moves", "runway with 0 moves"))
        for other in (Runway({**MOVES, "c": ("jet", 3, 5)}, GAPS), Runway(MOVES, {**GAPS, ("prop", "jet"): 2}), *odd_values()):
            self.assertEqual(RUNWAY == other, isinstance(other, Runway) and other.moves == MOVES and other.gaps == GAPS)
        with self.assertRaises(TypeError):
            iter(RUNWAY)

    def test_nothing_is_shared(self):
        moves, gaps = dict(MOVES), dict(GAPS)
        runway = Runway(moves, gaps)
        moves.clear()
        gaps.clear()
        runway.moves.clear()
        runway.gaps.clear()
        runway.ticks(("b", "a", "c")).clear()
        self.assertEqual(runway, RUNWAY)

    def test_wrong_moves(self):
        for moves in (None, (), [], "a", {"1": ("jet", 0, 1)}, {"dawn": ("jet", 0, 1)}, {1: ("jet", 0, 1)}, {"a": ("jet", 0)},
                      {"a": ["jet", 0, 1]}, {"a": ("dawn", 0, 1)}, {"a": (1, 0, 1)}, {"a": ("jet", 2, 1)},
                      {"a": ("jet", -1, 1)}, {"a": ("jet", 0, 10 ** 34 + 1)}, {"a": ("jet", True, 1)}, {"a": ("jet", 0, True)}):
            with self.assertRaises(InvalidDay, msg=moves):
                Runway(moves, {("jet", "jet"): 0})
        self.assertEqual(Runway({"a": ("jet", 10 ** 34, 10 ** 34)}, {("jet", "jet"): 10 ** 34}).least_end(), 10 ** 34)

    def test_wrong_gaps(self):
        alike = {"a": ("jet", 0, 1), "b": ("jet", 0, 1)}
        for gaps in (None, (), [], {}, {("jet", "jet"): -1}, {("jet", "jet"): True}, {("jet", "jet"): None},
                     {("jet", "jet"): 10 ** 34 + 1}, {("jet", "jet"): 1, ("jet", "prop"): 1}, {("prop", "prop"): 1},
                     {("jet",): 1}, {"jet": 1}, {("jet", "jet", "jet"): 1}, {("jet", 1): 1}):
            with self.assertRaises(InvalidDay, msg=gaps):
                Runway(alike, gaps)
        for pair in GAPS:
            with self.assertRaises(InvalidDay):
                Runway(MOVES, {key: GAPS[key] for key in GAPS if key != pair})
        with self.assertRaises(InvalidDay):
            Runway({}, {("jet", "jet"): 1})

    def test_wrong_kinds(self):
        for kind in ("dawn", "Jet", "7", "x" * 13, "", 5, True):
            with self.assertRaises(InvalidDay):
                Runway({"a": (kind, 0, 1)}, {(kind, kind): 0})
        self.assertEqual(len(Runway({"a": ("x" * 12, 0, 1)}, {("x" * 12, "x" * 12): 0})), 1)

    def test_the_triangle(self):
        three = {"a": ("k", 0, 9), "b": ("l", 0, 9), "c": ("m", 0, 9)}
        gaps = {(one, other): 3 for one in "klm" for other in "klm"}
        self.assertEqual(Runway(three, {**gaps, ("k", "m"): 6}).gaps[("k", "m")], 6)
        with self.assertRaises(InvalidDay):
            Runway(three, {**gaps, ("k", "m"): 7})
        # A kind and the same one over another kind, too.
        self.assertEqual(len(Runway(three, {**gaps, ("k", "k"): 6})), 3)
        with self.assertRaises(InvalidDay):
            Runway(three, {**gaps, ("k", "k"): 7})

    def test_twelve_and_thirteen(self):
        moves = {f"m{index:02}": ("kl"[index % 2], index % 3, 40) for index in range(13)}
        gaps = {("k", "k"): 3, ("k", "l"): 1, ("l", "k"): 2, ("l", "l"): 3}
        with self.assertRaises(TooMany) as caught:
            Runway(moves, gaps)
        self.assertEqual(caught.exception.limit, 12)
        with self.assertRaises(InvalidDay):
            Runway(moves, {})
        del moves["m12"]
        runway = Runway(moves, gaps)
        end = runway.least_end()
        self.assertEqual(end, 0 + 6 * 1 + 5 * 2)
        best = runway.best()
        self.assertEqual((runway.end(best), plain_ticks(runway, best)[best[-1]]), (end, end))
        self.assertTrue(runway.is_paper(end, runway.paper(end)))
        kind, table = runway.paper(end - 1)
        self.assertEqual(kind, "table")
        self.assertTrue(plain_is_table(runway, end - 1, table) and runway.is_paper(end - 1, (kind, table)))

    def test_twelve_kinds(self):
        kinds = "abcdefghijkl"
        moves = {f"m{kind}": (kind, 0, 300) for kind in kinds}
        gaps = {(one, other): 2 + (ord(one) * 7 + ord(other) * 11) % 3 for one in kinds for other in kinds}
        runway = Runway(moves, gaps)
        self.assertEqual(runway.end(runway.best()), runway.least_end())

    def test_a_move_that_has_to_go_first(self):
        # Whoever tries all sequences ascending comes to it after 39 million others.
        moves = {f"m{index:02}": ("k", 0, 11) for index in range(11)}
        for first in (0, 5):
            runway = Runway({**moves, "zz": ("k", first, first)}, {("k", "k"): 1})
            best = (*sorted(moves)[:first], "zz", *sorted(moves)[first:])
            self.assertEqual((runway.best(), next(runway.each_sequence(11))), (best, best))
            self.assertEqual(runway.paper(10)[0], "table")


class SequenceTest(unittest.TestCase):
    def test_ticks_and_ends(self):
        for runway in small_runways():
            for sequence in permutations(sorted(runway.moves)):
                ticks = plain_ticks(runway, sequence)
                self.assertEqual(runway.ticks(sequence), ticks)
                self.assertTrue(ticks is None or are_keys_ascending(runway.ticks(sequence)))
                end = None if ticks is None else ticks[sequence[-1]] if sequence else 0
                self.assertEqual(runway.end(sequence), end)

    def test_last_ticks_just_met_and_missed_by_one(self):
        for last, told in ((4, {"a": 0, "b": 4}), (3, None)):
            runway = Runway({"a": ("jet", 0, 9), "b": ("prop", 0, last)}, GAPS)
            self.assertEqual(runway.ticks(("a", "b")), told)
            self.assertEqual(runway.end(("a", "b")), None if told is None else 4)

    def test_what_is_no_sequence(self):
        for sequence in ((), ("a", "b"), ("a", "b", "b"), ("a", "b", "c", "c"), ("a", "b", "x"), ["a", "b", "c"], "abc", None,
                         ("a", "b", 1), ("a", "b", None), {"a": 1}, 5, ("a", "b", ["c"])):
            for call in (RUNWAY.ticks, RUNWAY.end):
                with self.assertRaises(InvalidOperation, msg=sequence):
                    call(sequence)
            self.assertIs(RUNWAY.is_paper(9, ("by", sequence)), False)

    def test_all_pairs_keep_their_gaps_and_nothing_is_earlier(self):
        for runway in small_runways():
            for sequence, _ in fitting_ends(runway):
                ticks = runway.ticks(sequence)
                for at, name in enumerate(sequence):
                    kind, first, last = runway.moves[name]
                    self.assertTrue(first <= ticks[name] <= last)
                    least = [ticks[other] + runway.gaps[(runway.moves[other][0], kind)] for other in sequence[:at]]
                    self.assertEqual(ticks[name], max([first, *least]))

    def test_least_end_and_best(self):
        seen = set()
        for runway in small_runways(200):
            told = fitting_ends(runway)
            end = min([end for _, end in told], default=None)
            self.assertEqual(runway.least_end(), end)
            self.assertEqual(runway.best(), min([sequence for sequence, at in told if at == end], default=None))
            seen.add(end is None)
        self.assertEqual(seen, {True, False})

    def test_each_sequence(self):
        for runway in small_runways():
            told = fitting_ends(runway)
            for tick in range(20):
                self.assertEqual(list(runway.each_sequence(tick)), [sequence for sequence, end in told if end <= tick])
        self.assertEqual(list(Runway({}, {}).each_sequence(0)), [()])

    def test_each_sequence_comes_one_at_a_time(self):
        moves = {f"m{index:02}": ("k", 0, 99) for index in range(12)}
        told = Runway(moves, {("k", "k"): 1}).each_sequence(11)
        names = tuple(sorted(moves))
        self.assertEqual(next(told), names)
        self.assertEqual(next(told), (*names[:-2], names[-1], names[-2]))
        for tick in (-1, True, None, 10 ** 34 + 1, "1"):
            asked = RUNWAY.each_sequence(tick)
            with self.assertRaises(InvalidNumber) as caught:
                next(asked)
            self.assertIs(caught.exception.given, tick)

    def test_what_is_not_true(self):
        # By `first`, or by `last`, the end is not the least; each two fit alone, and not all three.
        runway = Runway({"a": ("jet", 0, 20), "b": ("prop", 1, 19)}, {**GAPS, ("jet", "prop"): 9, ("prop", "jet"): 1,
                                                                   ("jet", "jet"): 2})
        self.assertEqual((runway.end(("a", "b")), runway.end(("b", "a")), runway.best()), (9, 2, ("b", "a")))
        later = Runway({"a": ("jet", 0, 18), "b": ("prop", 1, 19)}, runway.gaps)
        self.assertEqual(later.best(), ("b", "a"))
        tight = {name: ("k", 0, 1) for name in "abc"}
        gap = {("k", "k"): 1}
        self.assertIsNone(Runway(tight, gap).best())
        for pair in combinations(tight, 2):
            self.assertEqual(Runway({name: tight[name] for name in pair}, gap).best(), pair)

    def test_neighbours_exchanged_for_a_lesser_gap(self):
        runway = Runway({"a": ("jet", 0, 9), "b": ("prop", 3, 9), "c": ("jet", 0, 9)}, GAPS)
        self.assertLess(GAPS[("prop", "jet")], GAPS[("jet", "prop")])
        self.assertEqual((runway.end(("a", "b", "c")), runway.end(("b", "a", "c"))), (5, 6))

    def test_moves_of_one_kind_go_by_their_windows(self):
        for runway in small_runways(120):
            moves = runway.moves
            pairs = [(one, other) for one in moves for other in moves if one != other and moves[one][0] == moves[other][0]
                     and (moves[one][1:], one) < (moves[other][1:], other) and moves[one][2] <= moves[other][2]]
            end = runway.least_end()
            if end is not None:
                told = [sequence for sequence, at in fitting_ends(runway) if at == end]
                self.assertTrue(any(all(s.index(one) < s.index(other) for one, other in pairs) for s in told))


class RunwayPaperTest(unittest.TestCase):
    def test_just_one_kind_for_each_tick(self):
        kinds = set()
        for runway in small_runways():
            told = fitting_ends(runway)
            for tick in range(18):
                kind, found = paper = runway.paper(tick)
                early = [sequence for sequence, end in told if end <= tick]
                self.assertEqual(kind, "by" if early else "table")
                self.assertIs(runway.is_paper(tick, paper), True)
                kinds.add(kind)
                if kind == "by":
                    self.assertIn(found, early)
                else:
                    self.assertTrue(plain_is_table(runway, tick, found) and are_keys_ascending(found))
                for sequence in permutations(sorted(runway.moves)):
                    self.assertIs(runway.is_paper(tick, ("by", sequence)), sequence in early)
        self.assertEqual(kinds, {"by", "table"})

    def test_tables_that_the_program_did_not_make(self):
        seen = set()
        for seed, runway in enumerate(small_runways(60)):
            rng = random.Random(seed)
            if len(runway) == 0:
                continue
            end = runway.least_end()
            tick = rng.randint(0, 12) if end is None else max(0, end - 1)
            if end is not None and end == 0:
                continue
            _, table = runway.paper(tick)
            every = [(names, kind) for many in range(1, len(runway) + 1) for names in combinations(runway.names, many)
                     for kind in sorted({runway.moves[name][0] for name in names})]
            for _ in range(30):
                other = dict(table)
                key = rng.choice(every)
                change = rng.choice(("less", "more", "out", "further", "true"))
                if change == "further":
                    other[key] = rng.randint(0, 30)
                elif key in other and change == "out":
                    del other[key]
                elif key in other and change == "true":
                    other[key] = bool(other[key])
                    self.assertIs(runway.is_paper(tick, ("table", other)), False)
                    continue
                elif key in other:
                    other[key] += -1 if change == "less" else 1
                right = plain_is_table(runway, tick, other)
                self.assertIs(runway.is_paper(tick, ("table", other)), right)
                seen.add((change, right))
        for change in ("less", "more", "out", "further"):
            self.assertTrue({(change, True), (change, False)} <= seen, change)

    def test_a_pair_of_all_names_at_the_tick_and_one_beyond(self):
        _, table = RUNWAY.paper(2)
        whole = {key: at for key, at in table.items() if len(key[0]) == 3}
        self.assertEqual(min(whole.values()), 3)
        self.assertIs(RUNWAY.is_paper(2, ("table", table)), True)
        self.assertIs(RUNWAY.is_paper(3, ("table", table)), False)
        zero = {(names, kind): 0 for names in [("a",), ("b",), ("c",), ("a", "b"), ("a", "c"), ("b", "c")] for kind in
                {RUNWAY.moves[name][0] for name in names}}
        self.assertIs(RUNWAY.is_paper(0, ("table", zero)), False)
        far = {**zero, (("a", "b", "c"), "jet"): 1, (("a", "b", "c"), "prop"): 1}
        self.assertIs(RUNWAY.is_paper(0, ("table", far)), True)
        self.assertIs(RUNWAY.is_paper(1, ("table", far)), False)

    def test_what_is_no_paper(self):
        _, table = RUNWAY.paper(2)
        for value in (None, (), ("by",), ["by", ("b", "a", "c")], ("by", ("b", "a", "c"), 1), ("table", table), ("table", {}),
                      ("table", None), ("best", ("b", "a", "c")), ("table", []), ("by", table)):
            self.assertIs(RUNWAY.is_paper(3, value), False)
        for value in (("best", table), ("by", table), ("table", {**table, (("a", "b", "c", "x"), "jet"): 5})):
            self.assertIs(RUNWAY.is_paper(2, value), False)
        for key in ((), ("a",), (("a",), "prop"), (("a",), 1), (("b", "a"), "jet"), ((), "jet"), (("x",), "jet"), (("a", "x"), "jet"),
                    (("a", "a"), "jet"), ("a", "jet")):
            self.assertIs(RUNWAY.is_paper(2, ("table", {**table, key: 5})), False, key)
        for at in (-1, True, None, 10 ** 34 + 1, "1"):
            self.assertIs(RUNWAY.is_paper(2, ("table", {**table, (("a",), "jet"): at})), False)

    def test_without_moves(self):
        bare = Runway({}, {})
        self.assertEqual((bare.least_end(), bare.best(), bare.paper(0), bare.ticks(()), bare.end(())), (0, (), ("by", ()), {}, 0))
        self.assertIs(bare.is_paper(0, ("by", ())), True)
        self.assertIs(bare.is_paper(0, ("table", {})), False)

    def test_one_move(self):
        one = Runway({"a": ("k", 4, 7)}, {("k", "k"): 3})
        self.assertEqual((one.paper(4), one.paper(3)), (("by", ("a",)), ("table", {(("a",), "k"): 4})))
        self.assertIs(one.is_paper(3, ("table", {(("a",), "k"): 5})), False)
        self.assertIs(one.is_paper(3, ("table", {(("a",), "k"): 3})), False)

    def test_wrong_ticks(self):
        for tick in (-1, 10 ** 34 + 1, True, None, "1", (1,), 10 ** 59):
            for call in (RUNWAY.paper, lambda tick: RUNWAY.is_paper(tick, None), lambda tick: list(RUNWAY.each_sequence(tick))):
                with self.assertRaises(InvalidNumber) as caught:
                    call(tick)
                self.assertTrue(is_same(caught.exception.given, tick))

    def test_judging_accepts_every_value(self):
        for value in odd_values():
            for held in (value, ("by", value), ("table", value), ("table", {("a",): value}), ("by", (value,))):
                self.assertIs(RUNWAY.is_paper(2, held), False)


if __name__ == "__main__":
    unittest.main()
