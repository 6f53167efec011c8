"""Tests of groupclocks.errors: promises 1.1 and 1.2."""

import unittest

from groupclocks import errors
from tests.samples import SERVE, VALUES, is_like

TAKE_MESSAGE = (
    "InvalidName", "InvalidAction", "InvalidSystem", "InvalidRun", "InvalidClocks", "InvalidOperation",
)
KEEP = (
    ("UnknownName", KeyError, "wanted"),
    ("NotPossible", LookupError, "at"),
    ("NothingToUndo", IndexError, "many"),
    ("TooMany", OverflowError, "limit"),
    ("Refused", ArithmeticError, "claim"),
    ("InvalidNumber", RuntimeError, "given"),
)


class ErrorsTest(unittest.TestCase):
    def test_bases_are_direct(self):
        self.assertEqual(errors.ClockError.__bases__, (ValueError,))
        for name in TAKE_MESSAGE + ("ParseError",):
            self.assertEqual(getattr(errors, name).__bases__, (errors.ClockError,), name)
        for name, base, _ in KEEP:
            self.assertEqual(getattr(errors, name).__bases__, (base,), name)

    def test_names_and_module(self):
        for name in TAKE_MESSAGE + ("ClockError", "ParseError") + tuple(row[0] for row in KEEP):
            kind = getattr(errors, name)
            self.assertEqual((kind.__name__, kind.__module__), (name, "groupclocks.errors"))

    def test_messages(self):
        for name in TAKE_MESSAGE + ("ClockError",):
            kind = getattr(errors, name)
            self.assertEqual(str(kind("this is wrong")), "this is wrong")
            with self.assertRaises(ValueError):
                raise kind("this is wrong")

    def test_parse_error_keeps_its_line(self):
        for line in (None, 0, 1, 17, 10 ** 59):
            error = errors.ParseError(line)
            self.assertTrue(is_like(error.line, line))
            self.assertIsInstance(str(error), str)

    def test_others_keep_their_argument(self):
        for name, _, attribute in KEEP:
            for value in VALUES + ("ask", 2, 2000, ("ordered", "ask", "reply")):
                error = getattr(errors, name)(value)
                self.assertTrue(is_like(getattr(error, attribute), value), (name, value))
                self.assertIsInstance(str(error), str)

    def test_argument_may_be_passed_by_name(self):
        self.assertEqual(errors.ParseError(line=3).line, 3)
        for name, _, attribute in KEEP:
            self.assertIs(getattr(getattr(errors, name)(**{attribute: SERVE}), attribute), SERVE)

    def test_others_are_no_clock_errors(self):
        for name, _, _ in KEEP:
            self.assertFalse(issubclass(getattr(errors, name), errors.ClockError), name)


if __name__ == "__main__":
    unittest.main()
