"""Spare: [20.1] to [20.4]."""

import unittest
from itertools import combinations, permutations, product

from dawnway.errors import InvalidNet, InvalidNumber, InvalidOperation, InvalidTable
from dawnway.mends.spare import (
    box_paper, full_box, gives, is_box_paper, is_spare_paper, spare, spare_paper, stretched,
)
from dawnway.net.nets import Net
from dawnway.rule.rows import is_list
from dawnway.rule.tables import answer, is_answer, is_closed, is_safe
from tests.helpers import CHAIN, DAY, HARD, LINES, are_keys_ascending, crossed_net, is_same, odd_values, random_net

FAR = 10 ** 30
NET = Net({"in": 9, "on": 12, "off": 20}, {"fly": ("dawn", "in", 2, 5, 0), "load": ("in", "on", 1, 3, 0)},
          {"slot": ("dawn", "off", 10), "ready": ("off", "on", 0)})


def small_nets(count=40):
    """Small nets with works, more than half of them safe."""
    found = [random_net(seed, events=4, works=1 + seed % 3, bounds=2 + seed % 3, horizon=8) for seed in range(count)]
    return [NET, DAY, CHAIN, HARD, *found, *[crossed_net(seed, works=2, bounds=1 + seed % 3, horizon=10) for seed in range(count)]]


def lots_of(net):
    return [lot for many in range(1, len(net.works) + 1) for lot in combinations(sorted(net.works), many)]


def longer(net, box):
    """The net under a box, work by work."""
    works = {name: (*work[:3], work[3] + box.get(name, 0), work[4]) for name, work in net.works.items()}
    return Net(net.lasts, works, net.bounds)


def at_all(works, many):
    return {work: many for work in works}


class StretchedTest(unittest.TestCase):
    def test_name_by_name(self):
        for net in small_nets(8):
            for works in lots_of(net):
                for many in (0, 1, 7):
                    told = stretched(net, works, many)
                    self.assertEqual(told, longer(net, at_all(works, many)))
                    self.assertEqual((told.lasts, told.bounds), (net.lasts, net.bounds))

    def test_what_are_no_works(self):
        for works in (None, (), [], ["fly"], "fly", 5, ("x",), ("load", "fly"), ("fly", "fly"), ("in",), ("fly", 1), {"fly": 1}, {},
                      ("fly", "x"), ("a", "fly")):
            for call in (lambda net, works: stretched(net, works, None), spare, spare_paper,
                         lambda net, works: is_spare_paper(net, works, None)):
                with self.assertRaises(InvalidOperation, msg=works):
                    call(NET, works)
                with self.assertRaises(InvalidNet):
                    call(None, works)

    def test_numbers(self):
        for many in (-1, True, None, "1", (1,), 10 ** 34 + 1, 10 ** 59, FAR - 4, 10 ** 34):
            with self.assertRaises(InvalidNumber) as caught:
                stretched(NET, ("fly", "load"), many)
            self.assertTrue(is_same(caught.exception.given, many))
        self.assertEqual(stretched(NET, ("fly",), FAR - 5).works["fly"][3], FAR)
        self.assertEqual(stretched(NET, ("load",), FAR - 3).works["load"][3], FAR)


class SpareTest(unittest.TestCase):
    def test_against_numbers_one_by_one(self):
        seen = set()
        for net in small_nets():
            for works in lots_of(net):
                safe = [is_safe(longer(net, at_all(works, many))) for many in range(14)]
                self.assertEqual(safe, sorted(safe, reverse=True))
                right = safe.count(True) - 1 if any(safe) else None
                value = many, told, lines = spare_paper(net, works)
                if all(safe):
                    self.assertGreaterEqual(spare(net, works), 13)
                else:
                    self.assertEqual(spare(net, works), right)
                self.assertEqual(many, spare(net, works))
                self.assertIs(is_spare_paper(net, works, value), True)
                seen.add(many)
                if many is None:
                    self.assertTrue(told is None and is_list(net, lines))
                else:
                    self.assertLess(many, max(net.lasts[net.works[work][1]] for work in works))
                    self.assertTrue(told[0] == "table" and is_closed(longer(net, at_all(works, many)), told[1:]))
                    self.assertTrue(is_list(longer(net, at_all(works, many + 1)), lines))
        self.assertTrue({None, 0, 1, 2, 3} <= seen)

    def test_several_works_have_no_more_than_some(self):
        for net in small_nets(20):
            if is_safe(net):
                told = {lot: spare(net, lot) for lot in lots_of(net)}
                for lot in told:
                    for other in told:
                        if set(lot) < set(other):
                            self.assertLessEqual(told[other], told[lot])

    def test_papers_with_one_thing_wrong(self):
        for net in small_nets(12):
            for works in lots_of(net)[:3]:
                many, told, lines = spare_paper(net, works)
                wrong = [(many, told), [many, told, lines], (many, told, lines, 1), (many, told, None), (many, told, ()),
                         (many, told, lines[:-1]), (many, told, list(lines)), (many, told, ("list", lines))]
                if many is None:
                    wrong += [(0, None, lines), (None, lines, lines), (None, (), lines), (0, ("table", {}, {}), lines)]
                else:
                    wrong += [(other, told, lines) for other in (many + 1, many - 1, -1, None, True, str(many), 10 ** 34)]
                    wrong += [(many, told[1:], lines), (many, None, lines), (many, ("list", lines), lines), (many, list(told), lines)]
                    short = dict(list(told[1].items())[1:])
                    wrong.append((many, ("table", short, told[2]), lines))
                    less = longer(net, at_all(works, many - 1)) if many > 0 else None
                    if less is not None:
                        wrong.append((many - 1, answer(less), answer(longer(net, at_all(works, many)))[1]))
                for value in wrong:
                    self.assertIs(is_spare_paper(net, works, value), False, value)

    def test_papers_that_the_program_did_not_make(self):
        many, told, lines = spare_paper(NET, ("fly",))
        line = (("bound", "off", "dawn", 0), ("begin", "off"))
        other = (line, *[(row, tuple(p if isinstance(p, str) else p + 1 for p in why)) for row, why in lines])
        self.assertIs(is_spare_paper(NET, ("fly",), (many, told, other)), True)
        # A table of the net with one bound more is one of the net, too.
        narrow = stretched(NET, ("fly",), many).with_bounds({"later": ("off", "dawn", -9)})
        self.assertIs(is_spare_paper(NET, ("fly",), (many, answer(narrow), lines)), True)
        loose = (HARD, LINES)
        self.assertIs(is_spare_paper(loose[0], ("fly",), (None, None, LINES)), True)
        self.assertIs(is_spare_paper(loose[0], ("fly",), (None, None, LINES[:2])), False)

    def test_near_the_greatest_length(self):
        for most, right in ((FAR - 3, 3), (FAR - 1, 1), (FAR, 0)):
            net = Net({"x": FAR}, {"w": ("dawn", "x", 1, most, 0)})
            value = many, told, lines = spare_paper(net, ("w",))
            self.assertEqual((many, lines), (right, None))
            self.assertIs(is_spare_paper(net, ("w",), value), True)
            self.assertIs(is_spare_paper(net, ("w",), (many, told, ())), False)
            self.assertEqual(full_box(net, ("w",)), {"w": right})
            self.assertEqual(box_paper(net, {"w": right})[2], {})
            self.assertIs(is_box_paper(net, {"w": right}, ("full", told, {})), True)
            self.assertIs(is_box_paper(net, {"w": right}, ("full", told, {"w": ()})), False)
        net = Net({"x": FAR}, {"w": ("dawn", "x", 1, FAR - 3, 0)}, {"by": ("dawn", "x", FAR - 1)})
        many, told, lines = spare_paper(net, ("w",))
        self.assertEqual(many, 2)
        self.assertTrue(is_list(stretched(net, ("w",), 3), lines))

    def test_two_works_near_the_greatest_length(self):
        net = Net({"x": FAR, "y": FAR}, {"v": ("dawn", "x", 1, FAR - 1, 0), "w": ("dawn", "y", 1, 1, 0)})
        self.assertEqual([spare(net, works) for works in (("v",), ("w",), ("v", "w"))], [1, FAR - 1, 1])
        self.assertEqual(full_box(net, ("w", "v")), {"v": 1, "w": FAR - 1})
        self.assertEqual(box_paper(net, {"v": 1, "w": 0})[:2], ("more", "w"))
        self.assertIs(is_box_paper(net, {"v": 1, "w": 0}, ("more", "v", answer(longer(net, {"v": 1})))), False)

    def test_a_list_for_two_ticks_more(self):
        seen = set()
        for net in small_nets(30):
            for works in lots_of(net):
                many, told, _ = spare_paper(net, works)
                if many is not None:
                    lines = answer(longer(net, at_all(works, many + 2)))[1]
                    right = is_list(longer(net, at_all(works, many + 1)), lines)
                    self.assertIs(is_spare_paper(net, works, (many, told, lines)), right)
                    seen.add(right)
        self.assertIn(False, seen)

    def test_judging_accepts_every_value(self):
        many, told, lines = spare_paper(NET, ("fly",))
        for value in odd_values():
            for held in (value, (value, told, lines), (many, value, lines), (many, told, value), (None, None, value), (value,) * 3):
                self.assertIs(is_spare_paper(NET, ("fly",), held), False)

    def test_what_is_not_true(self):
        # The spare at both works is not the least of both; and a list for one tick more can do without a work.
        self.assertEqual([spare(NET, lot) for lot in lots_of(NET)], [2, 2, 1])
        net = Net({"x": 5, "y": 9}, {"v": ("dawn", "x", 1, 3, 0), "w": ("dawn", "y", 1, 3, 0)})
        _, _, lines = spare_paper(net, ("v", "w"))
        self.assertNotIn(("most", "w"), [why for _, why in lines])


class BoxTest(unittest.TestCase):
    def test_full_boxes_of_all_sequences(self):
        different = 0
        for net in small_nets(20):
            boxes = []
            for sequence in permutations(sorted(net.works)):
                box = full_box(net, sequence)
                if not is_safe(net):
                    self.assertIsNone(box)
                    continue
                self.assertTrue(list(box) == sorted(net.works) and is_safe(longer(net, box)))
                told = {}
                for work in sequence:
                    most = 0
                    while is_safe(longer(net, {**told, work: most + 1})):
                        most += 1
                    told[work] = most
                self.assertEqual(box, told)
                for work in box:
                    self.assertFalse(is_safe(longer(net, {**box, work: box[work] + 1})))
                self.assertEqual(box_paper(net, box)[0], "full")
                boxes.append(box)
            different += len(boxes) > 1 and any(box != boxes[0] for box in boxes)
        self.assertGreater(different, 2)

    def test_without_works(self):
        bare = Net({"a": 5})
        self.assertEqual(full_box(bare, ()), {})
        kind, told, lists = box_paper(bare, {})
        self.assertEqual((kind, lists), ("full", {}))
        self.assertIs(is_box_paper(bare, {}, (kind, told, lists)), True)
        barred = Net({"a": 5}, (), {"no": ("a", "dawn", -6)})
        self.assertIsNone(full_box(barred, ()))
        self.assertEqual(box_paper(barred, {})[0], "barred")

    def test_just_one_kind_for_each_box(self):
        kinds = set()
        for net in small_nets(14):
            names = sorted(net.works)
            for given in product(range(4 if len(names) < 3 else 2), repeat=len(names)):
                box = dict(zip(names, given))
                paper = box_paper(net, box)
                kinds.add(paper[0])
                self.assertIs(is_box_paper(net, box, paper), True)
                self.assertTrue(are_keys_ascending(paper))
                more = [name for name in names if is_safe(longer(net, {**box, name: box[name] + 1}))]
                right = "barred" if not is_safe(longer(net, box)) else "more" if more else "full"
                self.assertEqual(paper[0], right)
                if right == "more":
                    self.assertEqual(paper[1], more[0])
                for name in names:
                    value = ("more", name, answer(longer(net, {**box, name: box[name] + 1})))
                    self.assertIs(is_box_paper(net, box, value), name in more)
                table, lists = answer(longer(net, box)), {}
                for name in names:
                    lists[name] = answer(longer(net, {**box, name: box[name] + 1}))[1]
                self.assertIs(is_box_paper(net, box, ("full", table, lists)), right == "full")
                self.assertIs(is_box_paper(net, box, ("barred", table[1])), right == "barred")
        self.assertEqual(kinds, {"full", "more", "barred"})

    def test_papers_with_one_thing_wrong(self):
        box = {"fly": 2, "load": 0}
        kind, told, lists = box_paper(NET, box)
        self.assertEqual((kind, set(lists)), ("full", {"fly", "load"}))
        for value in ((kind, told), [kind, told, lists], (kind, told, lists, 1), (kind, told[1:], lists), (kind, None, lists),
                      (kind, told, None), (kind, told, {}), (kind, told, {"fly": lists["fly"]}), (kind, told, {**lists, "x": lists["fly"]}),
                      (kind, told, {"fly": lists["load"], "load": lists["fly"]}), (kind, told, {**lists, "fly": lists["fly"][:-1]}),
                      (kind, told, {**lists, "load": ("list", lists["load"])}), ("more", "fly", told), ("barred", lists["fly"]),
                      ("barred", lists["fly"], 1), (kind, told, {**lists, "fly": None}), (kind, told, [("fly", lists["fly"])])):
            self.assertIs(is_box_paper(NET, box, value), False)
        small = {"fly": 1, "load": 0}
        kind, work, told = paper = box_paper(NET, small)
        self.assertEqual((kind, work), ("more", "fly"))
        for value in ((kind, work), (kind, "load", told), (kind, "x", told), (kind, None, told), (kind, work, told[1:]),
                      (kind, ["fly"], told), ["more", work, told], ("full", work, told), (kind, work, answer(longer(NET, {"fly": 8})))):
            self.assertIs(is_box_paper(NET, small, value), False)
        wide = {"fly": 9, "load": 0}
        kind, lines = box_paper(NET, wide)
        self.assertEqual(kind, "barred")
        for value in ((kind,), (kind, lines[:-1]), (kind, list(lines)), (kind, ("list", lines)), ["barred", lines], (kind, lines, lines),
                      ("full", lines), paper):
            self.assertIs(is_box_paper(NET, wide, value), False)
        self.assertIs(is_box_paper(NET, wide, (kind, lines)), True)

    def test_judging_accepts_every_value(self):
        box = {"fly": 2, "load": 0}
        kind, told, lists = box_paper(NET, box)
        for value in odd_values():
            for held in (value, (kind, value, lists), (kind, told, value), ("more", value, told), ("more", "fly", value), ("barred", value),
                         (value, told, lists), (kind, told, {**lists, "fly": value}), (value, value)):
                self.assertIs(is_box_paper(NET, box, held), False)

    def test_wrong_sequences_and_boxes(self):
        for sequence in (None, [], (), "fly", 5, ("fly",), ("fly", "load", "load"), ("fly", "x"), ["fly", "load"], ("fly", 1),
                         ("fly", None), {"fly": 1, "load": 2}, ("in", "on")):
            with self.assertRaises(InvalidOperation):
                full_box(NET, sequence)
            with self.assertRaises(InvalidNet):
                full_box(None, sequence)
        for box in (None, (), [], {}, 5, {"fly": 1}, {"fly": 1, "load": 1, "x": 1}, {"fly": 1, "x": 1}, {"fly": True, "load": 1},
                    {"fly": -1, "load": 0}, {"fly": None, "load": 0}, {"fly": 0, "load": FAR - 2}, {"fly": 10 ** 34, "load": 0},
                    {1: 1, "load": 0}, {"fly": 10 ** 34 + 1, "load": 0}):
            for call in (box_paper, lambda net, box: is_box_paper(net, box, None)):
                with self.assertRaises(InvalidOperation, msg=box):
                    call(NET, box)
                with self.assertRaises(InvalidNet):
                    call(None, box)
        self.assertEqual(box_paper(NET, {"fly": FAR - 5, "load": FAR - 3})[0], "barred")

    def test_boxes_stay(self):
        box = {"load": 0, "fly": 2}
        box_paper(NET, box)
        is_box_paper(NET, box, None)
        self.assertEqual(list(box.items()), [("load", 0), ("fly", 2)])

    def test_what_is_true_of_lesser_boxes(self):
        for net in small_nets(10):
            names = sorted(net.works)
            for box in product(range(3), repeat=len(names)):
                if is_safe(longer(net, dict(zip(names, box)))):
                    for lesser in product(*[range(many + 1) for many in box]):
                        self.assertTrue(is_safe(longer(net, dict(zip(names, lesser)))))

    def test_two_full_boxes_do_not_give_as_much(self):
        net = Net({"x": 9, "y": 6, "z": 6}, {"u": ("x", "z", 1, 2, 0), "v": ("dawn", "x", 1, 2, 0), "w": ("x", "y", 1, 2, 0)})
        self.assertEqual(full_box(net, ("v", "u", "w")), {"u": 0, "v": 2, "w": 0})
        self.assertEqual(full_box(net, ("u", "w", "v")), {"u": 2, "v": 0, "w": 2})


class GivesTest(unittest.TestCase):
    def test_names_of_bounds(self):
        self.assertEqual(gives(HARD, LINES), ("soon", "walk"))
        for net in small_nets(20):
            kind, *found = answer(net)
            if kind == "list":
                words = [why for _, why in found[0]]
                self.assertEqual(gives(net, found[0]), tuple(sorted({word[1] for word in words if word[0] == "bound"})))

    def test_lines_on_which_nothing_hangs(self):
        more = HARD.with_bounds({"idle": ("land", "board", 30)})
        lines = ((("bound", "land", "board", 30), ("bound", "idle")),
                 *[(row, tuple(p if isinstance(p, str) else p + 1 for p in why)) for row, why in LINES])
        self.assertEqual(gives(more, lines), ("idle", "soon", "walk"))

    def test_what_is_no_list(self):
        for lines in (None, (), [], "x", 5, LINES[:2], LINES[::-1], list(LINES), (None,), {}):
            with self.assertRaises(InvalidTable):
                gives(HARD, lines)
            with self.assertRaises(InvalidNet):
                gives(None, lines)
        self.assertTrue(is_answer(HARD, ("list", LINES)))


if __name__ == "__main__":
    unittest.main()
