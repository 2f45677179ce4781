"""Nets: [0.2], [0.7], [0.8], [0.9], [0.14], stage 2."""

import unittest

from dawnway.errors import InvalidNet, InvalidOperation, UnknownName
from dawnway.net import nets
from dawnway.net.nets import Net, net_fault
from tests.helpers import BARE, CHAIN, DAY, are_keys_ascending, odd_values, random_net, shown

LASTS = {"a": 5, "b": 5, "c": 5}


def many(count, letter):
    return [f"{letter}{index}" for index in range(count)]


class FaultTest(unittest.TestCase):
    def fault(self, lasts, works=(), bounds=()):
        told = net_fault(lasts, works, bounds)
        if told is None:
            self.assertIsInstance(Net(lasts, works, bounds), Net)
        else:
            with self.assertRaises(InvalidNet):
                Net(lasts, works, bounds)
        return told

    def test_constants(self):
        self.assertEqual((nets.MAX_EVENTS, nets.MAX_WORKS, nets.MAX_BOUNDS), (200, 60, 400))

    def test_lasts(self):
        for value in ({"a": 0}, {"a": 10 ** 30}, {name: 3 for name in many(200, "e")}, {"b": 1, "a": 2}):
            self.assertIsNone(self.fault(value))
        wrong = (
            {}, (), None, [], "a", 1, {"a": -1}, {"a": 10 ** 30 + 1}, {"a": True}, {"a": None}, {"a": "1"},
            {"dawn": 1}, {"": 1}, {"A": 1}, {1: 1}, {None: 1}, {"a": 1, 2: 2}, {name: 3 for name in many(201, "e")},
            {("a",): 1}, {"a": (1,)}, {"a": 10 ** 59}, {"a" * 13: 1},
        )
        for value in wrong:
            self.assertEqual(self.fault(value), ("lasts",), value)

    def test_works(self):
        lasts = {name: 9 for name in many(62, "e")}
        works = {f"w{index}": ("dawn", f"e{index}", 1, 1, 0) for index in range(60)}
        self.assertIsNone(self.fault(lasts, works))
        self.assertEqual(self.fault(lasts, {**works, "x": ("dawn", "e60", 1, 1, 0)}), ("works",))
        for value in ((), {}):
            self.assertIsNone(self.fault(LASTS, value))
        for value in (None, [], "", 0, False, ("w",), ((),), {"dawn": 1}, {1: 1}, {"w": 1, None: 2}, {"W": 1}):
            self.assertEqual(self.fault(LASTS, value), ("works",), value)

    def test_one_work(self):
        right = (
            ("dawn", "a", 1, 1, 0), ("a", "b", 1, 10 ** 30, 20), ("b", "a", 10 ** 30, 10 ** 30, 1),
            ("a", "b", 3, 3, 0),
        )
        for value in right:
            self.assertIsNone(self.fault(LASTS, {"w": value}), value)
        wrong = (
            None, 5, "dawn", [], ["dawn", "a", 1, 1, 0], (), ("dawn", "a", 1, 1), ("dawn", "a", 1, 1, 0, 0),
            ("a", "dawn", 1, 1, 0), ("dawn", "dawn", 1, 1, 0), ("a", "a", 1, 1, 0), ("x", "a", 1, 1, 0),
            ("dawn", "x", 1, 1, 0), (None, "a", 1, 1, 0), ("dawn", None, 1, 1, 0), (["a"], "b", 1, 1, 0),
            ("a", ["b"], 1, 1, 0), ("dawn", "a", 0, 1, 0), ("dawn", "a", -1, 1, 0), ("dawn", "a", 2, 1, 0),
            ("dawn", "a", 1, 10 ** 30 + 1, 0), ("dawn", "a", 10 ** 30 + 1, 10 ** 30 + 1, 0),
            ("dawn", "a", 1, 1, -1), ("dawn", "a", 1, 1, 21), ("dawn", "a", True, 1, 0), ("dawn", "a", 1, True, 0),
            ("dawn", "a", 1, 1, False), ("dawn", "a", 1, 1, None), ("dawn", "a", "1", 1, 0), ("dawn", "a", 1, (1,), 0),
            ("dawn", ("a",), 1, 1, 0), ({}, "a", 1, 1, 0), (1, "a", 1, 1, 0), ("dawn", "a", 1, 10 ** 59, 0),
        )
        for value in wrong:
            self.assertEqual(self.fault(LASTS, {"w": value}), ("work", "w"), value)

    def test_a_work_can_be_called_like_an_event(self):
        self.assertIsNone(self.fault(LASTS, {"a": ("dawn", "a", 1, 2, 0)}, {"a": ("a", "b", 1)}))

    def test_two_works_with_one_end(self):
        works = {"x": ("dawn", "a", 1, 2, 0), "y": ("b", "a", 1, 2, 0), "z": ("c", "a", 1, 2, 0)}
        self.assertEqual(self.fault(LASTS, works), ("ends", "y"))

    def test_two_works_with_one_begin(self):
        self.assertIsNone(self.fault(LASTS, {"x": ("c", "a", 1, 2, 0), "y": ("c", "b", 1, 2, 3)}))

    def test_works_in_a_chain(self):
        self.assertIsNone(self.fault(LASTS, {"x": ("a", "b", 1, 2, 0), "y": ("b", "c", 1, 2, 4)}))
        self.assertIsNone(self.fault(LASTS, {"x": ("dawn", "b", 1, 2, 0), "y": ("b", "c", 1, 2, 0), "z": ("c", "a", 1, 2, 9)}))

    def test_works_that_go_round(self):
        two = {"x": ("a", "b", 1, 2, 0), "y": ("b", "a", 1, 2, 0)}
        self.assertEqual(self.fault(LASTS, two), ("ring", "x"))
        three = {"x": ("a", "b", 1, 2, 0), "y": ("b", "c", 1, 2, 0), "z": ("c", "a", 1, 2, 0)}
        self.assertEqual(self.fault(LASTS, three), ("ring", "x"))
        aside = {"a": ("b", "c", 1, 2, 0), "x": ("a", "b", 1, 2, 0), "y": ("b", "a", 1, 2, 0)}
        self.assertEqual(self.fault(LASTS, aside), ("ring", "x"))

    def test_a_begin_that_is_seen_late(self):
        works = {"x": ("a", "b", 1, 2, 1), "y": ("b", "c", 1, 2, 0)}
        self.assertEqual(self.fault(LASTS, works), ("look", "y"))
        works = {"p": ("dawn", "a", 1, 2, 2), "x": ("a", "b", 1, 2, 1), "y": ("b", "c", 1, 2, 0)}
        self.assertEqual(self.fault(LASTS, works), ("look", "x"))

    def test_bounds(self):
        right = {name: ("a", "b", 1) for name in many(400, "x")}
        self.assertIsNone(self.fault(LASTS, (), right))
        self.assertEqual(self.fault(LASTS, (), {**right, "y": ("a", "b", 1)}), ("bounds",))
        for value in ((), {}):
            self.assertIsNone(self.fault(LASTS, (), value))
        for value in (None, [], "", 0, False, ("x",), {"dawn": 1}, {1: 1}, {"x": 1, None: 2}, {"X": 1}):
            self.assertEqual(self.fault(LASTS, (), value), ("bounds",), value)

    def test_one_bound(self):
        right = (
            ("a", "b", 0), ("dawn", "b", -1), ("a", "dawn", 10 ** 40 - 1), ("b", "a", 1 - 10 ** 40), ("c", "a", 3),
        )
        for value in right:
            self.assertIsNone(self.fault(LASTS, (), {"x": value}), value)
        wrong = (
            None, 5, "ab", [], ["a", "b", 1], (), ("a", "b"), ("a", "b", 1, 1), ("a", "a", 1), ("dawn", "dawn", 1),
            ("x", "a", 1), ("a", "x", 1), (None, "a", 1), ("a", ["b"], 1), (["a"], "b", 1), ("a", "b", True),
            ("a", "b", None), ("a", "b", "1"), ("a", "b", 10 ** 40), ("a", "b", -(10 ** 40)), ("a", "b", (1,)),
            (1, "a", 1), ({}, "a", 1), ("a", "b", 10 ** 59),
        )
        for value in wrong:
            self.assertEqual(self.fault(LASTS, (), {"x": value}), ("bound", "x"), value)

    def test_first_of_several_faults(self):
        bad_work, bad_bound = ("dawn", "a", 0, 1, 0), ("a", "a", 1)
        one_end = {"p": ("dawn", "a", 1, 1, 0), "q": ("b", "a", 1, 1, 0)}
        ring = {"x": ("a", "b", 1, 2, 1), "y": ("b", "a", 1, 2, 1)}
        late = {"x": ("a", "b", 1, 2, 1), "y": ("b", "c", 1, 2, 1)}
        self.assertEqual(self.fault({}, 5, 5), ("lasts",))
        self.assertEqual(self.fault(LASTS, 5, 5), ("works",))
        self.assertEqual(self.fault(LASTS, {"z": bad_work, "y": bad_work}, 5), ("work", "y"))
        self.assertEqual(self.fault(LASTS, {**one_end, "z": bad_work}, 5), ("work", "z"))
        self.assertEqual(self.fault(LASTS, {**one_end, "a": ("a", "b", 1, 2, 0)}, 5), ("ends", "q"))
        self.assertEqual(self.fault({**LASTS, "d": 5}, {**ring, "z": ("c", "b", 1, 1, 0)}, 5), ("ends", "z"))
        self.assertEqual(self.fault(LASTS, ring, 5), ("ring", "x"))
        self.assertEqual(self.fault(LASTS, late, 5), ("look", "y"))
        self.assertEqual(self.fault(LASTS, (), {"z": bad_bound, "y": bad_bound}), ("bound", "y"))
        self.assertEqual(self.fault(LASTS, {"w": bad_work}, {"y": bad_bound}), ("work", "w"))

    def test_every_value_is_looked_at(self):
        for value in odd_values():
            net_fault(value, (), ())
            net_fault(LASTS, value, ())
            net_fault(LASTS, (), value)
            net_fault({"a": value}, {"w": value}, {"x": value})
            self.assertEqual(net_fault(LASTS, {"w": ("dawn", "a", 1, value, 0)}, ()) is None, value in (1, 7) and value is not True)


class NetTest(unittest.TestCase):
    def test_properties(self):
        self.assertEqual(CHAIN.events, ("call", "clear", "gate", "go", "land"))
        self.assertEqual((CHAIN.deeds, CHAIN.ends), (("call",), ("clear", "gate", "go", "land")))
        self.assertEqual(CHAIN.horizon, 40)
        self.assertEqual(list(CHAIN.works), ["fly", "storm", "taxi", "tow"])
        self.assertEqual((BARE.deeds, BARE.ends, BARE.works), (("a", "b", "c"), (), {}))
        self.assertEqual((Net({"a": 1}).works, Net({"a": 1}).bounds), ({}, {}))

    def test_told_words(self):
        told = (
            *[("bound", name) for name in ("meet", "wait")],
            *[("last", name) for name in ("call", "clear", "gate", "go", "land")],
            *[("begin", name) for name in ("call", "clear", "gate", "go", "land")],
            *[("most", name) for name in ("fly", "storm", "taxi", "tow")],
            *[("least", name) for name in ("fly", "storm", "taxi", "tow")],
        )
        self.assertEqual(CHAIN.told, told)

    def test_rows_of_told_words(self):
        rows = {
            ("bound", "meet"): ("bound", "gate", "call", 4),
            ("last", "go"): ("bound", "dawn", "go", 40),
            ("begin", "go"): ("bound", "go", "dawn", 0),
            ("most", "storm"): ("bound", "dawn", "clear", 6),
            ("least", "taxi"): ("bound", "gate", "land", -1),
        }
        for word, row in rows.items():
            self.assertEqual(CHAIN.row(word), row)

    def test_what_is_no_told_word(self):
        words = [
            ("bound", "fly"), ("last", "dawn"), ("begin", "dawn"), ("most", "land"), ("least", "meet"), ("first", "a"),
            ["bound", "meet"], ("bound",), ("bound", "meet", 0), "bound", ("bound", None), (None, "meet"),
        ]
        for word in words + odd_values():
            with self.assertRaises(InvalidOperation):
                CHAIN.row(word)

    def test_work_of(self):
        told = [CHAIN.work_of(event) for event in ("dawn", "call", "land", "gate", "go", "clear")]
        self.assertEqual(told, [None, None, "fly", "taxi", "tow", "storm"])

    def test_road(self):
        self.assertEqual(CHAIN.road("gate"), ("dawn", ("fly", "taxi")))
        self.assertEqual(CHAIN.road("go"), ("call", ("tow",)))
        self.assertEqual(CHAIN.road("call"), ("call", ()))
        self.assertEqual(CHAIN.road("dawn"), ("dawn", ()))

    def test_unknown_events(self):
        for value in ("fly", "meet", "x", "", None, 1, True, ["land"], ("land",), {}, CHAIN):
            for ask in (CHAIN.work_of, CHAIN.road):
                with self.assertRaises(UnknownName) as caught:
                    ask(value)
                self.assertEqual(caught.exception.wanted, value)

    def test_length_and_members(self):
        self.assertEqual((len(CHAIN), len(BARE)), (5, 3))
        self.assertIn("land", CHAIN)
        for value in ["dawn", "fly", "meet", "x", *odd_values()]:
            self.assertIs(value in CHAIN, value == "land")

    def test_equality(self):
        twin = Net(
            {"land": 20, "gate": 30, "go": 40, "clear": 20, "call": 30}, dict(reversed(CHAIN.works.items())),
            dict(reversed(CHAIN.bounds.items())),
        )
        self.assertTrue(CHAIN == twin and not CHAIN != twin)
        self.assertEqual(shown(CHAIN), shown(twin))
        others = (
            CHAIN.with_lasts({"go": 41}), CHAIN.with_looks({"storm": 1}), CHAIN.without("meet"),
            CHAIN.with_lengths({"fly": (3, 6)}), CHAIN.renamed({"go": "gone"}), BARE,
        )
        for other in others:
            self.assertTrue(CHAIN != other and not CHAIN == other)
        for value in odd_values():
            self.assertIs(BARE == value, isinstance(value, Net) and value.events == ("a", "b", "c"))
        self.assertEqual(Net({"a": 1}, (), ()), Net({"a": 1}, {}, {}))

    def test_text(self):
        self.assertEqual(str(CHAIN), "net of 5 events, 4 works, 2 bounds")
        self.assertEqual(str(Net({"a": 1})), "net of 1 events, 0 works, 0 bounds")

    def test_no_iteration(self):
        with self.assertRaises(TypeError):
            iter(CHAIN)
        with self.assertRaises(TypeError):
            list(CHAIN)
        with self.assertRaises(TypeError):
            first, *_ = CHAIN

    def test_nothing_is_shared(self):
        lasts, works, bounds = {"b": 9, "a": 9}, {"w": ("dawn", "a", 1, 2, 0)}, {"x": ("a", "b", 1)}
        net = Net(lasts, works, bounds)
        before = shown(net)
        lasts["a"], works["w"] = 1, None
        bounds.clear()
        for told in (net.lasts, net.works, net.bounds):
            told.clear()
        self.assertEqual(shown(net), before)
        with self.assertRaises(AttributeError):
            net.lasts = {}

    def test_ascending_keys(self):
        for seed in range(20):
            net = random_net(seed)
            for told in (net.lasts, net.works, net.bounds):
                self.assertTrue(are_keys_ascending(told))


class OtherNetsTest(unittest.TestCase):
    def test_with_bounds(self):
        net = DAY.with_bounds({"walk": ("board", "land", -6), "a": ("dawn", "off", 50)})
        self.assertEqual(list(net.bounds), ["a", "crew", "late", "turn", "walk"])
        self.assertEqual((net.bounds["walk"], net.bounds["crew"]), (("board", "land", -6), ("land", "off", 20)))
        self.assertEqual((net.lasts, net.works), (DAY.lasts, DAY.works))
        self.assertEqual(DAY.with_bounds({}), DAY)
        self.assertEqual(DAY.bounds["walk"], ("board", "land", -5))
        for value in (None, (), [], "walk", 1, True, DAY):
            with self.assertRaises(InvalidOperation):
                DAY.with_bounds(value)
        for value in ({1: 2}, {"x": None}, {"dawn": ("land", "off", 1)}, {"x": ("land", "land", 1)},
                      {f"x{index}": ("land", "off", 1) for index in range(397)}):
            with self.assertRaises(InvalidNet):
                DAY.with_bounds(value)
        self.assertEqual(len(DAY.with_bounds({f"x{index}": ("land", "off", 1) for index in range(396)}).bounds), 400)

    def test_without(self):
        self.assertEqual(list(DAY.without("walk", "crew", "walk").bounds), ["late", "turn"])
        self.assertEqual(DAY.without(), DAY)
        self.assertEqual(DAY.without("crew", "late", "turn", "walk").bounds, {})
        for value in ("fly", "x", None, 1, ["walk"], ("walk",), {}, True):
            with self.assertRaises(UnknownName) as caught:
                DAY.without("walk", value, "y")
            self.assertEqual(caught.exception.wanted, value)

    def test_with_lengths(self):
        net = CHAIN.with_lengths({"taxi": (2, 9), "fly": (1, 1)})
        self.assertEqual(net.works["taxi"], ("land", "gate", 2, 9, 1))
        self.assertEqual(net.works["fly"], ("dawn", "land", 1, 1, 0))
        self.assertEqual(net.works["tow"], CHAIN.works["tow"])
        self.assertEqual(CHAIN.with_lengths({}), CHAIN)
        for value in (None, (), [], {"x": (1, 2)}, {"land": (1, 2)}, {"fly": 1}, {"fly": (1,)}, {"fly": (1, 2, 3)},
                      {"fly": [1, 2]}, {1: (1, 2)}, {"fly": (1, 2), "x": (1, 2)}):
            with self.assertRaises(InvalidOperation):
                CHAIN.with_lengths(value)
        for value in ({"fly": (0, 2)}, {"fly": (3, 2)}, {"fly": (1, None)}, {"fly": (True, 2)}, {"fly": (1, 10 ** 30 + 1)}):
            with self.assertRaises(InvalidNet):
                CHAIN.with_lengths(value)
        with self.assertRaises(InvalidOperation):
            CHAIN.with_lengths({"fly": (3, 2), "tow": 5})

    def test_with_looks(self):
        net = CHAIN.with_looks({"storm": 0, "taxi": 20})
        self.assertEqual((net.works["storm"][4], net.works["taxi"][4]), (0, 20))
        self.assertEqual(CHAIN.with_looks({}), CHAIN)
        for value in (None, (), [], {"x": 1}, {"land": 1}, {1: 1}, {"fly": 0, "x": 1}):
            with self.assertRaises(InvalidOperation):
                CHAIN.with_looks(value)
        for value in ({"storm": 21}, {"storm": -1}, {"storm": True}, {"storm": None}, {"storm": (1,)}, {"fly": 1}):
            with self.assertRaises(InvalidNet):
                CHAIN.with_looks(value)

    def test_with_lasts(self):
        net = CHAIN.with_lasts({"go": 10 ** 30, "land": 0})
        self.assertEqual((net.lasts["go"], net.lasts["land"], net.lasts["call"]), (10 ** 30, 0, 30))
        self.assertEqual(CHAIN.with_lasts({}), CHAIN)
        for value in (None, (), [], {"x": 1}, {"fly": 1}, {"dawn": 1}, {1: 1}):
            with self.assertRaises(InvalidOperation):
                CHAIN.with_lasts(value)
        for value in ({"go": -1}, {"go": 10 ** 30 + 1}, {"go": True}, {"go": None}, {"go": [1]}):
            with self.assertRaises(InvalidNet):
                CHAIN.with_lasts(value)

    def test_renamed(self):
        net = CHAIN.renamed({"land": "on", "taxi": "roll", "meet": "m"})
        self.assertEqual(net.lasts, {"call": 30, "clear": 20, "gate": 30, "go": 40, "on": 20})
        self.assertEqual(net.works["fly"], ("dawn", "on", 3, 5, 0))
        self.assertEqual(net.works["roll"], ("on", "gate", 1, 3, 1))
        self.assertEqual(net.bounds, {"m": ("gate", "call", 4), "wait": ("call", "clear", 0)})
        self.assertEqual(net.renamed({"on": "land", "roll": "taxi", "m": "meet"}), CHAIN)
        self.assertEqual(CHAIN.renamed({}), CHAIN)
        self.assertEqual(CHAIN.renamed({"go": "go"}), CHAIN)

    def test_renamed_changes_all_lots_at_once(self):
        net = Net({"a": 1, "b": 2}, {"a": ("dawn", "a", 1, 2, 0)}, {"a": ("a", "b", 1)})
        other = Net({"c": 1, "b": 2}, {"c": ("dawn", "c", 1, 2, 0)}, {"c": ("c", "b", 1)})
        self.assertEqual(net.renamed({"a": "c"}), other)
        turned = Net({"b": 1, "a": 2}, {"b": ("dawn", "b", 1, 2, 0)}, {"b": ("b", "a", 1)})
        self.assertEqual(net.renamed({"a": "b", "b": "a"}), turned)

    def test_renamed_refuses(self):
        for value in (None, (), [], "go", {"x": "y"}, {"dawn": "y"}, {1: "y"}, {"go": "land"}, {"fly": "taxi"},
                      {"meet": "wait"}, {"go": "same", "land": "same"}, {"go": 1}, {"go": None}, {"go": ["x"]},
                      {"go": "dawn"}, {"go": "X"}, {"go": "a" * 13}):
            with self.assertRaises(InvalidOperation):
                CHAIN.renamed(value)
        self.assertIn("fly", CHAIN.renamed({"go": "fly"}))

    def test_the_net_stays(self):
        before = shown(CHAIN)
        for value in odd_values():
            for change in (CHAIN.with_bounds, CHAIN.without, CHAIN.with_lengths, CHAIN.with_looks, CHAIN.with_lasts,
                           CHAIN.renamed):
                try:
                    change(value)
                except (InvalidOperation, InvalidNet, UnknownName):
                    pass
        self.assertEqual(shown(CHAIN), before)


if __name__ == "__main__":
    unittest.main()
