"""Halves of a day: [22.1] to [22.4]."""

import random
import unittest

from dawnway.errors import InvalidNet, InvalidNumber, InvalidOperation, TooMany, UnknownName
from dawnway.live.halves import (
    are_halves, fitting, greatest_high, guested, halves_paper, is_halves_paper, least_high, narrowed, whole, windows,
)
from dawnway.net.nets import Net
from dawnway.play.plays import each_course
from dawnway.rule.rows import is_list
from dawnway.rule.tables import answer, closure, is_closed, is_safe
from dawnway.walk.walks import free_deeds
from tests.helpers import DAY, HARD, LINES, are_keys_ascending, is_same, odd_values

FAR = 10 ** 30
FIELD = Net({"in": 9, "on": 12}, {"fly": ("dawn", "in", 2, 5, 0)},
            {"taxi": ("in", "on", 3), "lane": ("on", "in", -2), "by": ("dawn", "on", 9), "from": ("on", "dawn", -4)})
HALL = Net({"on": 12, "go": 20}, {"on": ("dawn", "on", 4, 9, 0)}, {"call": ("on", "go", 4), "walk": ("go", "on", -1)})


def small_halves(seed):
    """Two small halves: one owns `on`, as a rule, and the other one `back`."""
    rng = random.Random(seed)
    last = rng.randint(7, 10)
    low, high = rng.randint(1, 4), rng.randint(4, 7)
    look = rng.choice([0, 0, 1, 2])
    one_lasts, one_works = {"in": last, "on": last}, {}
    if rng.random() < 0.5:
        least = rng.randint(1, 3)
        one_works["fly"] = ("dawn", "in", least, least + rng.randint(0, 2), 0)
    if rng.random() < 0.4:
        least = rng.randint(1, 2)
        one_works["taxi"] = ("in", "on", least, least + rng.randint(0, 2), rng.choice([0, 0, 1, 2]))
    one_bounds = {"tie": ("in", "on", rng.randint(1, 4)), "turn": ("on", "in", -rng.randint(0, 2))}
    if rng.random() < 0.8:
        one_bounds["by"] = ("dawn", "on", high + rng.choice([0, 0, -1, 1]))
        one_bounds["from"] = ("on", "dawn", -low + rng.choice([0, 0, -1, 1]))
    other_lasts = {"on": rng.choice([last, last - 1]), "go": last}
    other_works = {"on": ("dawn", "on", low, high, look)}
    other_bounds = {"call": ("on", "go", rng.randint(0, 5)), "walk": ("go", "on", -rng.randint(0, 2))}
    if rng.random() < 0.5:
        # A second common event, which the other half owns.
        one_lasts["back"] = last
        other_lasts["back"] = last
        one_works["back"] = ("dawn", "back", 1, rng.randint(3, 6), 0)
        other_bounds["low"] = ("back", "dawn", -rng.choice([0, 1, 1]))
        other_bounds["high"] = ("dawn", "back", rng.randint(2, 6))
        if rng.random() < 0.5:
            one_bounds["late"] = ("back", "in", rng.randint(3, 8))
    return Net(one_lasts, one_works, one_bounds), Net(other_lasts, other_works, other_bounds)


def turned(one, other):
    return other, one


class HalvesTest(unittest.TestCase):
    def no_halves(self, one, other):
        for pair in ((one, other), (other, one)):
            self.assertIs(are_halves(*pair), False)
            for call in (windows, whole, halves_paper, lambda a, b: is_halves_paper(a, b, None), lambda a, b: fitting(a, b, None, None)):
                with self.assertRaises(InvalidOperation):
                    call(*pair)

    def test_halves(self):
        self.assertIs(are_halves(FIELD, HALL), True)
        self.assertIs(are_halves(HALL, FIELD), True)
        self.assertIs(are_halves(FIELD, FIELD), False)
        # Without a common event, two nets are halves, too.
        self.assertIs(are_halves(Net({"a": 5}), Net({"b": 5})), True)
        self.assertEqual(windows(Net({"a": 5}), Net({"b": 5})), {})
        for seed in range(40):
            self.assertIs(are_halves(*small_halves(seed)), True)

    def test_one_condition_broken(self):
        self.no_halves(FIELD, HALL.with_bounds({"taxi": ("on", "go", 4)}))
        self.no_halves(Net({**FIELD.lasts, "x": 5}, {**FIELD.works, "on": ("in", "x", 1, 2, 0)}, FIELD.bounds), HALL)
        self.no_halves(FIELD.renamed({"fly": "on"}), HALL)
        # The common event is a guest of none: it is a deed in both, or its work has another name, or another begin.
        self.no_halves(FIELD, Net(HALL.lasts, (), HALL.bounds))
        self.no_halves(FIELD, Net(HALL.lasts, {"off": HALL.works["on"]}, HALL.bounds))
        self.no_halves(FIELD, Net(HALL.lasts, {"on": ("go", "on", 4, 9, 0)}, HALL.bounds))
        self.no_halves(FIELD, Net({**HALL.lasts, "x": 9}, {"on": ("dawn", "x", 4, 9, 0)}, HALL.bounds))
        # One more event that both have, and that is a guest of none.
        self.no_halves(FIELD, Net({**HALL.lasts, "in": 9}, HALL.works, HALL.bounds))
        self.assertIs(are_halves(FIELD, Net({**HALL.lasts, "x": 9}, HALL.works, HALL.bounds)), True)

    def test_a_whole_that_is_none(self):
        # A ring over both halves.
        one = Net({"p": 9, "q": 9}, {"p": ("dawn", "p", 1, 2, 0), "u": ("p", "q", 1, 2, 0)})
        other = Net({"p": 9, "q": 9}, {"q": ("dawn", "q", 1, 2, 0), "v": ("q", "p", 1, 2, 0)})
        self.no_halves(one, other)
        self.assertIs(are_halves(one, Net({"p": 9, "q": 9}, {"q": ("dawn", "q", 1, 2, 0), "v": ("dawn", "p", 1, 2, 0)})), True)
        # A work that begins by an end that is seen late in the half that owns it.
        guest = Net({"p": 9, "q": 9}, {"p": ("dawn", "p", 1, 2, 0), "u": ("p", "q", 1, 2, 0)})
        self.no_halves(guest, Net({"p": 9}, {"v": ("dawn", "p", 1, 2, 1)}))
        self.assertIs(are_halves(guest, Net({"p": 9}, {"v": ("dawn", "p", 1, 2, 0)})), True)

    def test_windows_and_the_whole(self):
        self.assertEqual(windows(FIELD, HALL), {"on": (0, 4, 9, 0, True)})
        self.assertEqual(windows(HALL, FIELD), {"on": (1, 4, 9, 0, True)})
        told = Net({"go": 20, "in": 9, "on": 12}, {"fly": ("dawn", "in", 2, 5, 0)}, {**FIELD.bounds, **HALL.bounds})
        self.assertEqual((whole(FIELD, HALL), whole(HALL, FIELD)), (told, told))
        self.assertEqual(whole(FIELD, HALL.with_lasts({"on": 11})).lasts["on"], 11)
        self.assertEqual(whole(FIELD.with_lasts({"on": 10}), HALL).lasts["on"], 10)
        for seed in range(40):
            one, other = small_halves(seed)
            both = whole(one, other)
            common = sorted(set(one.events) & set(other.events))
            self.assertEqual(set(both.events), set(one.events) | set(other.events))
            for event in both.events:
                self.assertEqual(both.lasts[event], min(net.lasts[event] for net in (one, other) if event in net))
            self.assertEqual(both.works, {name: work for name, work in {**one.works, **other.works}.items() if name not in common})
            self.assertEqual(both.bounds, {**one.bounds, **other.bounds})
            self.assertEqual(list(windows(one, other)), common)
            for event, (owner, least, most, look, promised) in windows(one, other).items():
                self.assertTrue(is_same(owner, 0 if event == "on" else 1) and isinstance(promised, bool))
                guest = other if event == "on" else one
                self.assertEqual(guest.works[event], ("dawn", event, least, most, look))
                back = windows(other, one)[event]
                self.assertEqual(back, (1 - owner, least, most, look, promised))

    def test_promises_just_kept_and_missed_by_a_tick(self):
        for low, high, right in ((4, 9, True), (3, 9, False), (4, 10, False), (5, 8, True), (5, 10, False), (3, 8, False)):
            owner = FIELD.with_bounds({"by": ("dawn", "on", high), "from": ("on", "dawn", -low)})
            self.assertIs(windows(owner, HALL)["on"][4], right, (low, high))
        self.assertIs(windows(FIELD.without("by"), HALL)["on"][4], False)
        self.assertIs(windows(FIELD.without("from"), HALL)["on"][4], False)
        # Only named bounds count, not the last tick, and not what follows.
        self.assertIs(windows(FIELD.without("by").with_lasts({"on": 9}), HALL)["on"][4], False)
        # Of several bounds one is enough.
        more = FIELD.with_bounds({"wide": ("dawn", "on", 30), "zero": ("on", "dawn", 0)})
        self.assertIs(windows(more, HALL)["on"][4], True)
        # Bounds of other events, and such the other way, tell nothing.
        wrong = FIELD.with_bounds({"by": ("dawn", "in", 9), "from": ("dawn", "on", -4)})
        self.assertIs(windows(wrong, HALL)["on"][4], False)

    def test_looks(self):
        for own, guest, right in ((0, 0, True), (2, 2, True), (2, 3, True), (3, 2, False), (1, 0, False)):
            owner = Net({"in": 9, "on": 12}, {"taxi": ("in", "on", 1, 3, own)}, FIELD.bounds | {"taxi": ("in", "on", 3)})
            half = HALL.with_looks({"on": guest})
            self.assertEqual(windows(owner, half)["on"], (0, 4, 9, guest, right))
        # A deed is seen at once.
        self.assertIs(windows(FIELD, HALL.with_looks({"on": 7}))["on"][4], True)

    def test_sizes(self):
        def many(letter, count):
            return Net({f"{letter}{index:03}": 9 for index in range(count)})

        self.assertEqual(len(whole(many("a", 100), many("b", 100))), 200)
        self.check_too_many(many("a", 100), many("b", 101), 200)
        lasts = {f"e{index:02}": 9 for index in range(31)}
        one = Net(lasts, {f"v{index:02}": ("dawn", f"e{index:02}", 1, 2, 0) for index in range(30)})
        other = Net({event.replace("e", "f"): 9 for event in lasts}, {f"w{index:02}": ("dawn", f"f{index:02}", 1, 2, 0) for index in range(31)})
        self.check_too_many(one, other, 60)
        self.assertEqual(len(whole(one, Net(other.lasts, {f"w{index:02}": other.works[f"w{index:02}"] for index in range(30)})).works), 60)
        # Guests' works do not count.
        guests = Net({"e00": 9, **other.lasts}, {"e00": ("dawn", "e00", 1, 2, 0), **{f"w{index:02}": other.works[f"w{index:02}"] for index in range(30)}})
        self.assertEqual(len(whole(one, guests).works), 60)
        one = Net({"a": 9}, (), {f"b{index:03}": ("a", "dawn", 0) for index in range(200)})
        other = Net({"c": 9}, (), {f"d{index:03}": ("c", "dawn", 0) for index in range(201)})
        self.check_too_many(one, other, 400)
        self.assertEqual(len(whole(one, other.without("d200")).bounds), 400)
        # Events come first.
        self.check_too_many(Net({**many("a", 100).lasts, "a": 9}, (), one.bounds), Net({**many("b", 100).lasts, "c": 9}, (), other.bounds), 200)

    def check_too_many(self, one, other, limit):
        self.assertIs(are_halves(one, other), True)
        with self.assertRaises(TooMany) as caught:
            whole(one, other)
        self.assertEqual(caught.exception.limit, limit)

    def test_nets(self):
        for value in (None, True, 5, "net", (), {}, [FIELD]):
            for call in (are_halves, windows, whole, halves_paper, lambda a, b: is_halves_paper(a, b, None), lambda a, b: fitting(a, b, None, None)):
                with self.assertRaises(InvalidNet):
                    call(value, HALL)
                with self.assertRaises(InvalidNet):
                    call(FIELD, value)


class HalvesPaperTest(unittest.TestCase):
    def test_each_kind(self):
        kinds = set()
        for seed in range(120):
            one, other = small_halves(seed)
            paper = halves_paper(one, other)
            self.assertIs(is_halves_paper(one, other, paper), True)
            self.assertTrue(are_keys_ascending(paper))
            kinds.add(paper[0])
            loose = [event for event, told in windows(one, other).items() if not told[4]]
            tables = [closure(one), closure(other)]
            lists = [None if table is not None else answer(net)[1] for table, net in zip(tables, (one, other))]
            for event in [*one.events, *other.events, "dawn", "x"]:
                self.assertIs(is_halves_paper(one, other, ("open", event)), event == loose[0] if loose else False)
            for half in (0, 1):
                self.assertIs(is_halves_paper(one, other, ("list", half, lists[half])), lists[half] is not None)
                self.assertIs(is_halves_paper(one, other, ("list", 1 - half, lists[half])), False)
            right = None not in tables and not loose
            self.assertIs(is_halves_paper(one, other, ("table", tables[0], tables[1])), right)
            self.assertEqual(paper[0] == "table", right)
            # The whole of halves with tables, all of whose windows are promised, has one.
            if right:
                self.assertTrue(is_safe(whole(one, other)))
        self.assertEqual(kinds, {"table", "list", "open"})

    def test_two_kinds_at_once(self):
        hard = Net({"on": 12, "go": 20}, HALL.works, {**HALL.bounds, "no": ("go", "on", -5)})
        loose = FIELD.without("by")
        lines = answer(hard)[1]
        for value in (("open", "on"), ("list", 1, lines)):
            self.assertIs(is_halves_paper(loose, hard, value), True)
        self.assertIs(is_halves_paper(FIELD, hard, ("open", "on")), False)
        self.assertIs(is_halves_paper(FIELD, hard, ("list", 1, lines)), True)

    def test_one_thing_wrong(self):
        one, other = closure(FIELD), closure(HALL)
        hard = Net({"on": 12, "go": 20}, HALL.works, {**HALL.bounds, "no": ("go", "on", -5)})
        lines = answer(hard)[1]
        for value in (None, (), ("table",), ("table", one), ("table", other, one), ["table", one, other], ("table", one, other, 1),
                      ("table", ("table", *one), other), ("table", one, None), ("table", one, (other[0], {})), ("list", 0, LINES), ("open", None),
                      ("open",), ("open", "on", 1)):
            self.assertIs(is_halves_paper(FIELD, HALL, value), False)
        for half in (True, 2, -1, "1", None, 0, (1,)):
            self.assertIs(is_halves_paper(FIELD, hard, ("list", half, lines)), False)
        for half in (True, False, 1, 2, -1, "0", None, (0,)):
            self.assertIs(is_halves_paper(hard, FIELD, ("list", half, lines)), False)
        self.assertIs(is_halves_paper(hard, FIELD, ("list", 0, lines)), True)
        self.assertIs(is_halves_paper(FIELD.without("by"), HALL, ("opens", "on")), False)
        for value in (("lists", 1, lines), ("table", 1, lines), ("list", 1), ("list", 1, lines[:-1]), ["list", 1, lines], ("list", 1, ("list", lines)), ("list", lines, 1)):
            self.assertIs(is_halves_paper(FIELD, hard, value), False)
        narrow = closure(FIELD.with_bounds({"more": ("on", "dawn", -5)}))
        self.assertIs(is_halves_paper(FIELD, HALL, ("table", narrow, other)), True)

    def test_judging_accepts_every_value(self):
        one = closure(FIELD)
        for value in odd_values():
            for held in (value, ("table", value, value), ("table", one, value), ("list", value, LINES), ("list", 1, value), ("open", value),
                         (value, value), (value, one, one)):
                self.assertIs(is_halves_paper(FIELD, HALL, held), False)
                self.assertIs(is_halves_paper(FIELD.without("by"), HALL, held), held == ("open", "on"))

    def test_what_is_not_true(self):
        # A whole that is safe though no window is promised; taking a bound back opens a window.
        self.assertTrue(is_safe(whole(FIELD.without("by"), HALL)))
        self.assertEqual(halves_paper(FIELD.without("by"), HALL), ("open", "on"))


class TwoWalksTest(unittest.TestCase):
    def ticks_of(self, halves, tables, course):
        """The ticks of the whole if both walks go on, each by what its half sees, by turns in one tick."""
        both = whole(*halves)
        looks = [{work[1]: work[4] for work in half.works.values()} for half in halves]
        done = {}

        def ticks():
            told = dict(done)
            for end in both.ends:
                root, chain = both.road(end)
                if root == "dawn" or root in done:
                    told[end] = done.get(root, 0) + sum(course[work] for work in chain)
            return told

        for tick in range(both.horizon + 3):
            going = True
            while going:
                going = False
                for half, table, own in zip(halves, tables, looks):
                    seen = sorted((at + own.get(event, 0), event) for event, at in ticks().items() if event in half)
                    for deed in free_deeds(half, *table, tick, tuple(pair for pair in seen if pair[0] <= tick)):
                        done[deed] = tick
                        going = True
        return ticks()

    def test_the_walks_of_both_halves_keep_the_whole(self):
        kept = 0
        for seed in range(120):
            halves = small_halves(seed)
            paper = halves_paper(*halves)
            if paper[0] == "table":
                both = whole(*halves)
                for course in list(each_course(both))[:20]:
                    ticks = {"dawn": 0, **self.ticks_of(halves, paper[1:], course)}
                    for first, second, most in [both.row(word)[1:] for word in both.told]:
                        self.assertLessEqual(ticks[second], ticks[first] + most)
                    kept += 1
        self.assertGreater(kept, 20)


class WindowTest(unittest.TestCase):
    def test_narrowed_and_guested(self):
        self.assertEqual(narrowed(FIELD, "on", 4, 9), FIELD.with_bounds({"low.1": ("on", "dawn", -4), "high.1": ("dawn", "on", 9)}))
        self.assertEqual(narrowed(FIELD, "in", 0, 0), FIELD.with_bounds({"low.0": ("in", "dawn", 0), "high.0": ("dawn", "in", 0)}))
        self.assertEqual(narrowed(FIELD, "in", 10 ** 34, 10 ** 34).bounds["low.0"][2], -(10 ** 34))
        self.assertEqual(guested(HALL, "on", 2, 3), HALL.with_lengths({"on": (2, 3)}))
        self.assertEqual(guested(HALL, "on", FAR, FAR).works["on"][2:4], (FAR, FAR))

    def test_against_numbers_one_by_one(self):
        seen = set()
        for seed in range(60):
            one, other = small_halves(seed)
            for low in range(0, 11):
                for net, event in ((one, "on"), (one, "in"), (other, "go")):
                    safe = [is_safe(net.with_bounds({"x.l": (event, "dawn", -low), "x.h": ("dawn", event, high)})) for high in range(low, 14)]
                    self.assertEqual(safe, sorted(safe))
                    right = low + safe.index(True) if True in safe else None
                    self.assertEqual(least_high(net, event, low), right)
                    seen.add(right is None)
                if low > 0:
                    safe = [is_safe(other.with_lengths({"on": (low, high)})) for high in range(low, 14)]
                    self.assertEqual(safe, sorted(safe, reverse=True))
                    right = low + safe.count(True) - 1 if True in safe else None
                    self.assertEqual(greatest_high(other, "on", low), right)
                    seen.add(right is None)
        self.assertEqual(seen, {True, False})

    def test_numbers_do_not_fall(self):
        for seed in range(40):
            one, other = small_halves(seed)
            told = [least_high(one, "on", low) for low in range(1, 10)]
            found = [high for high in told if high is not None]
            self.assertEqual(found, sorted(found))
            self.assertEqual(told, found + [None] * (len(told) - len(found)))
            # The greatest ones do not fall either, where there are any.
            found = [high for high in (greatest_high(other, "on", low) for low in range(1, 10)) if high is not None]
            self.assertEqual(found, sorted(found))

    def test_fitting(self):
        fits = 0
        for seed in range(80):
            one, other = small_halves(seed)
            own = one.work_of("on")
            late = own is not None and one.works[own][4] > other.works["on"][4]
            for low in range(1, 9):
                right = [high for high in range(low, 13) if is_safe(other.with_lengths({"on": (low, high)}))
                         and is_safe(one.with_bounds({"x.l": ("on", "dawn", -low), "x.h": ("dawn", "on", high)}))]
                told = fitting(one, other, "on", low)
                self.assertEqual(told, None if late or not right else (right[0], right[-1]))
                fits += told is not None
                if told is not None:
                    for high in told:
                        pair = narrowed(one, "on", low, high), guested(other, "on", low, high)
                        self.assertTrue(windows(*pair)["on"][4] and is_safe(pair[0]) and is_safe(pair[1]))
        self.assertGreater(fits, 60)

    def test_a_window_within_is_safe_as_guest(self):
        for seed in range(25):
            one, other = small_halves(seed)
            for low in range(1, 6):
                for high in range(low, 8):
                    if is_safe(guested(other, "on", low, high)):
                        for inner in range(low, high + 1):
                            self.assertTrue(is_safe(guested(other, "on", inner, high)) and is_safe(guested(other, "on", low, inner)))
                        look = other.works["on"][4]
                        self.assertTrue(is_safe(guested(other, "on", low, high).with_looks({"on": max(0, look - 1)})))

    def test_far_numbers(self):
        free = Net({"p": FAR, "q": 9}, {"p": ("dawn", "p", 1, 2, 0)})
        self.assertEqual((greatest_high(free, "p", 1), greatest_high(free, "p", FAR)), (FAR, FAR))
        self.assertIsNone(greatest_high(Net({"p": FAR - 1}, {"p": ("dawn", "p", 1, 2, 0)}), "p", FAR))
        self.assertEqual(least_high(Net({"p": FAR}), "p", FAR), FAR)
        self.assertIsNone(least_high(Net({"p": FAR}), "p", FAR + 1))
        self.assertIsNone(least_high(Net({"p": 5}), "p", 10 ** 34))
        owner = Net({"p": FAR})
        self.assertEqual(fitting(owner, free, "p", FAR), (FAR, FAR))
        for low in (FAR + 1, 10 ** 34):
            self.assertIsNone(fitting(owner, free, "p", low))

    def raises(self, error, call, *given):
        with self.assertRaises(error, msg=given) as caught:
            call(*given)
        return caught.exception

    def test_errors_in_sequence(self):
        odd = ["x", "", "dawn", "fly", None, True, 5, ["on"], ("on",), {}, FIELD]
        for event in odd:
            for call, more in ((narrowed, (-1, -1)), (least_high, (-1,))):
                self.assertTrue(is_same(self.raises(UnknownName, call, FIELD, event, *more).wanted, event))
                self.raises(InvalidNet, call, None, event, *more)
        for work in [*odd, "go", "on.", "call"]:
            for call, more in ((guested, (0, 0)), (greatest_high, (0,))):
                self.assertTrue(is_same(self.raises(UnknownName, call, HALL, work, *more).wanted, work))
                self.raises(InvalidNet, call, None, work, *more)
        # A work from dawn to an event of another name, and one of its own name that begins elsewhere, are none.
        self.raises(UnknownName, guested, FIELD, "fly", 1, 2)
        self.raises(UnknownName, guested, Net({"a": 9, "x": 9}, {"x": ("a", "x", 1, 2, 0)}), "x", 1, 2)
        for low in (-1, True, None, "4", (4,), 10 ** 34 + 1, 10 ** 59):
            for call, more in ((narrowed, (-1,)), (least_high, ())):
                self.assertTrue(is_same(self.raises(InvalidNumber, call, FIELD, "on", low, *more).given, low))
        for low in (0, -1, True, None, "4", (4,), FAR + 1, 10 ** 59):
            for call, more in ((guested, (-1,)), (greatest_high, ())):
                self.assertTrue(is_same(self.raises(InvalidNumber, call, HALL, "on", low, *more).given, low))
        for high in (3, -1, True, None, "4", (4,), 10 ** 34 + 1, 10 ** 59):
            self.assertTrue(is_same(self.raises(InvalidNumber, narrowed, FIELD, "on", 4, high).given, high))
        for high in (3, -1, True, None, "4", (4,), FAR + 1, 10 ** 59):
            self.assertTrue(is_same(self.raises(InvalidNumber, guested, HALL, "on", 4, high).given, high))

    def test_names_that_are_taken_and_too_many_bounds(self):
        for name in ("low.1", "high.1"):
            taken = FIELD.with_bounds({name: ("in", "on", 9)})
            for call, more in ((narrowed, (4, 9)), (least_high, (4,))):
                self.raises(InvalidOperation, call, taken, "on", *more)
                self.raises(InvalidNumber, call, taken, "on", -1, *more[1:])
                call(taken, "in", *[1, 9][:len(more)])
            self.raises(InvalidOperation, fitting, taken, HALL, "on", 4)
            self.raises(InvalidNumber, fitting, taken, HALL, "on", 0)
        full = FIELD.with_bounds({f"b{index:03}": ("in", "on", 9) for index in range(395)})
        for call, more in ((narrowed, (4, 9)), (least_high, (4,))):
            self.assertEqual(self.raises(TooMany, call, full, "on", *more).limit, 400)
            self.raises(InvalidOperation, call, full.without("b000").with_bounds({"low.1": ("in", "on", 9)}), "on", *more)
            call(full.without("b394"), "on", *more)
        self.assertEqual(self.raises(TooMany, fitting, full, HALL, "on", 4).limit, 400)

    def test_errors_of_fitting(self):
        self.raises(InvalidOperation, fitting, FIELD, FIELD, "x", -1)
        self.raises(InvalidOperation, fitting, DAY, HARD, "x", -1)
        for event in ("x", "in", "go", "dawn", "", None, True, 5, ["on"], ("on",), {}, FIELD):
            self.assertTrue(is_same(self.raises(UnknownName, fitting, FIELD, HALL, event, -1).wanted, event))
        for low in (4, -1):
            self.raises(UnknownName, fitting, HALL, FIELD, "on", low)
        for low in (0, -1, True, None, "4", (4,), 10 ** 34 + 1, 10 ** 59):
            self.assertTrue(is_same(self.raises(InvalidNumber, fitting, FIELD, HALL, "on", low).given, low))
        late = Net({"in": 9, "on": 12}, {"taxi": ("in", "on", 1, 3, 2)}, FIELD.bounds)
        self.assertIsNone(fitting(late, HALL.with_looks({"on": 1}), "on", 4))
        self.assertIsNotNone(fitting(FIELD, HALL, "on", 4))
        self.raises(InvalidOperation, fitting, late.with_bounds({"low.1": ("in", "on", 9)}), HALL.with_looks({"on": 1}), "on", 4)

    def test_tables_are_closed(self):
        kind, one, other = halves_paper(FIELD, HALL)
        self.assertTrue(kind == "table" and is_closed(FIELD, one) and is_closed(HALL, other))
        self.assertFalse(is_list(FIELD, ()))


if __name__ == "__main__":
    unittest.main()
