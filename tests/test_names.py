"""Integers, names, ticks, what is seen: [0.1], [0.5], [0.7], stage 1."""

import unittest

from dawnway.base import names
from dawnway.base.names import is_integer, is_name, is_names, is_seen, is_tick, seen_until, tick_of
from dawnway.errors import InvalidName, InvalidNumber, InvalidOperation
from tests.helpers import odd_values

SEEN = ((0, "on"), (3, "in"), (3, "off"), (10 ** 34, "z"))


class NamesTest(unittest.TestCase):
    def test_constants(self):
        told = (names.DAWN, names.MAX_LETTERS, names.MAX_TICK, names.MAX_LENGTH, names.MAX_LOOK)
        self.assertEqual(told, ("dawn", 12, 10 ** 34, 10 ** 30, 20))

    def test_integers(self):
        for value in (0, 1, -1, 10 ** 40 - 1, 1 - 10 ** 40):
            self.assertIs(is_integer(value), True)
        for value in (10 ** 40, -(10 ** 40), 10 ** 59, True, False, None, "1", "", (), (1,), [1], {}, {1: 1}):
            self.assertIs(is_integer(value), False)

    def test_names(self):
        for value in ("a", "z", "a" * 12, "a.b", "a..", "a1", "ba7.off", "dawns", "daw", "dawn."):
            self.assertIs(is_name(value), True, value)
        for value in ("", "a" * 13, "dawn", "7", "7a", ".", ".a", "A", "aB", "a b", "a-b", "a_b", "a\n", " a", "a,b"):
            self.assertIs(is_name(value), False, value)
        for value in (None, True, 0, ("a",), ["a"], {"a": 1}):
            self.assertIs(is_name(value), False, value)

    def test_ticks(self):
        for value in (0, 1, 10 ** 34):
            self.assertIs(is_tick(value), True)
        for value in (-1, 10 ** 34 + 1, 10 ** 40, True, False, None, "0", (0,), [0]):
            self.assertIs(is_tick(value), False)

    def test_tuples_of_names(self):
        for value in ((), ("a",), ("a", "b"), ("a", "a.", "a1", "b")):
            self.assertIs(is_names(value), True, value)
        for value in (("b", "a"), ("a", "a"), ["a"], [], "a", "", None, ("dawn",), ("a", None), (("a",),), ("a", 1)):
            self.assertIs(is_names(value), False, value)

    def test_what_is_seen(self):
        for value in ((), ((0, "a"),), SEEN, ((1, "b"), (2, "a"))):
            self.assertIs(is_seen(value), True, value)
        wrong = (
            ((1, "b"), (0, "a")), ((0, "b"), (0, "a")), ((0, "a"), (0, "a")), ((0, "a"), (1, "a")),
            ((0, "a"), (1, "b"), (2, "a")), ((-1, "a"),), ((10 ** 34 + 1, "a"),), ((True, "a"),), ((False, "a"),),
            ((0, "dawn"),), ((0, "A"),), ((0, "a", 1),), ((0,),), (0, "a"), [(0, "a")], ([0, "a"],), ((None, "a"),),
            (("a", 0),), "a", None, {}, 0, ((0, "a"), None),
        )
        for value in wrong:
            self.assertIs(is_seen(value), False, value)

    def test_every_value_is_judged(self):
        for value in odd_values():
            for judge in (is_integer, is_name, is_tick, is_names, is_seen):
                self.assertIsInstance(judge(value), bool)

    def test_seen_until(self):
        self.assertEqual(seen_until(SEEN, 0), ((0, "on"),))
        self.assertEqual(seen_until(SEEN, 2), ((0, "on"),))
        self.assertEqual(seen_until(SEEN, 3), SEEN[:3])
        self.assertEqual(seen_until(SEEN, 10 ** 34), SEEN)
        self.assertEqual(seen_until((), 5), ())

    def test_tick_of(self):
        self.assertEqual([tick_of(SEEN, name) for name in ("on", "off", "z", "no")], [0, 3, 10 ** 34, None])

    def test_wrong_seen(self):
        for value in (None, [], ((1, "b"), (0, "a")), ((True, "a"),)):
            with self.assertRaises(InvalidOperation):
                seen_until(value, 1)
            with self.assertRaises(InvalidOperation):
                tick_of(value, "a")

    def test_wrong_tick(self):
        for value in (-1, 10 ** 34 + 1, True, None, "1", [1]):
            with self.assertRaises(InvalidNumber) as caught:
                seen_until((), value)
            self.assertEqual(caught.exception.given, value)
            self.assertIs(type(caught.exception.given), type(value))

    def test_wrong_name(self):
        for value in ("dawn", "", "A", None, 1, ["a"], "a" * 13):
            with self.assertRaises(InvalidName):
                tick_of((), value)

    def test_first_error_applies(self):
        with self.assertRaises(InvalidOperation):
            seen_until([], -1)
        with self.assertRaises(InvalidOperation):
            tick_of([], "dawn")


if __name__ == "__main__":
    unittest.main()
