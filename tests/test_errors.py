"""The classes of errors: [1.1], [1.2]."""

import unittest

from dawnway import errors

PLAIN = (
    "InvalidName", "InvalidNet", "InvalidRow", "InvalidTable", "InvalidCourse", "InvalidWay", "InvalidDay",
    "InvalidDeal", "InvalidOperation", "InvalidCommand",
)
KEEPING = {
    "UnknownName": (KeyError, "wanted"),
    "InvalidNumber": (RuntimeError, "given"),
    "TooMany": (OverflowError, "limit"),
    "Refused": (ArithmeticError, "reason"),
    "NothingToUndo": (IndexError, "wanted"),
}


class ErrorsTest(unittest.TestCase):
    def test_day_error_is_a_value_error(self):
        self.assertEqual(errors.DayError.__bases__, (ValueError,))

    def test_day_errors_are_directly_derived(self):
        for name in (*PLAIN, "ParseError"):
            self.assertEqual(getattr(errors, name).__bases__, (errors.DayError,), name)

    def test_others_are_directly_derived(self):
        for name, (base, _) in KEEPING.items():
            self.assertEqual(getattr(errors, name).__bases__, (base,), name)

    def test_none_is_one_of_another(self):
        names = (*PLAIN, "ParseError", *KEEPING)
        for one in names:
            for other in names:
                if one != other:
                    self.assertFalse(issubclass(getattr(errors, one), getattr(errors, other)), (one, other))
        for name in KEEPING:
            self.assertFalse(issubclass(getattr(errors, name), errors.DayError), name)

    def test_plain_ones_take_a_message(self):
        for name in (*PLAIN, "DayError"):
            self.assertIn("what is wrong", str(getattr(errors, name)("what is wrong")))

    def test_parse_error_keeps_its_line(self):
        self.assertEqual(errors.ParseError(3).line, 3)
        self.assertIsNone(errors.ParseError(None).line)

    def test_others_keep_their_argument(self):
        for name, (_, attribute) in KEEPING.items():
            for value in (5, "x", None, True, ("ring", ()), [1, [2]], {"a": {"b": 1}}):
                kept = getattr(getattr(errors, name)(value), attribute)
                self.assertEqual(kept, value)
                self.assertIs(type(kept), type(value))

    def test_what_is_kept_is_not_shared(self):
        value = {"a": [1, ({"b": 2},)]}
        error = errors.UnknownName(value)
        value["a"][1][0]["b"] = 3
        value["a"].append(4)
        self.assertEqual(error.wanted, {"a": [1, ({"b": 2},)]})

    def test_all_can_be_told_as_text(self):
        for name, (_, _) in KEEPING.items():
            self.assertIsInstance(str(getattr(errors, name)(("a", 10 ** 59))), str)


if __name__ == "__main__":
    unittest.main()
