"""Tests of groupclocks.base.words: promises 0.1, 0.5 and 0.7, and the texts of names."""

import itertools
import unittest

from groupclocks.base import words
from groupclocks.base.words import is_integer, is_name, is_names, read_names, write_names
from groupclocks.errors import InvalidName, ParseError
from tests.samples import VALUES, check_examples, without_kind

EXAMPLE = """
>>> [write_names(("ask", "reply")), write_names(()), read_names("think"), is_name("Ask"), is_names(("a", "a"))]
['ask reply', '-', ('think',), False, False]
"""
SIXTEEN = tuple("abcdefghijklmnop")


class JudgeTest(unittest.TestCase):
    def judge(self, judge, value, expected):
        self.assertIs(judge(value), expected, (judge.__name__, value))

    def test_constants(self):
        self.assertEqual((words.MAX_LETTERS, words.MAX_NAMES), (8, 16))

    def test_integers(self):
        for value in (0, 1, -1, 7, 10 ** 59, -10 ** 59, int("9" * 60), -int("9" * 60)):
            self.judge(is_integer, value, True)

    def test_integers_that_are_too_long(self):
        for value in (10 ** 60, -10 ** 60, int("9" * 61), -int("9" * 61), 10 ** 99, -10 ** 99):
            self.judge(is_integer, value, False)

    def test_no_integers(self):
        for value in [True, False, *without_kind(VALUES, int)]:
            self.judge(is_integer, value, False)

    def test_names(self):
        for value in ("a", "z", "ask", "abcdefgh", "zzzzzzzz", "agent", "pool", "action"):
            self.judge(is_name, value, True)

    def test_no_names(self):
        for value in ("", "abcdefghi", "A", "Ask", "asK", "a1", "1", "a_b", "a-b", "a b", " a", "a ", "a\n", "a,", "`",
                      "{", "@", "[", "x" * 9000):
            self.judge(is_name, value, False)
        for value in VALUES:
            self.judge(is_name, value, False)

    def test_each_sign_in_names(self):
        for code in list(range(32, 127)) + [10]:
            expected = chr(code) in "abcdefghijklmnopqrstuvwxyz"
            for value in (chr(code), "a" + chr(code), chr(code) + "a", "a" + chr(code) + "a"):
                self.judge(is_name, value, expected)

    def test_tuples_of_names(self):
        for value in ((), ("a",), ("ask", "reply"), ("reply", "ask"), SIXTEEN, ("a", "b", "c")):
            self.judge(is_names, value, True)

    def test_no_tuples_of_names(self):
        for value in (("a", "a"), ("a", "b", "a"), SIXTEEN + ("q",), SIXTEEN + ("a",), ("a", "B"), ("a", ""), ("a", 1),
                      ("a", None), ("a", True), ("a", ("b",)), ("a", ["b"]), ["a"], "a", "ask", {"a": "a"},
                      ("abcdefghi",)):
            self.judge(is_names, value, False)
        for value in VALUES:
            self.judge(is_names, value, value in ((), ("a", "b", "c")))


class NamesTextTest(unittest.TestCase):
    def test_example(self):
        check_examples(self, EXAMPLE, dict(vars(words)))

    def test_there_and_back(self):
        cases = (((), "-"), (("a",), "a"), (("think", "ask"), "think ask"), (SIXTEEN, "a b c d e f g h i j k l m n o p"))
        for names, text in cases:
            self.assertEqual(write_names(names), text)
            self.assertEqual(read_names(text), names)
            self.assertIs(type(read_names(text)), tuple)

    def test_each_value_has_one_text(self):
        texts = ["".join(signs) for many in range(6) for signs in itertools.product("ab -", repeat=many)]
        for text in texts:
            try:
                names = read_names(text)
            except ParseError:
                continue
            self.assertEqual(write_names(names), text)
        self.assertEqual(sum(1 for text in texts if self.is_read(text)), 1 + self.many_texts())

    def is_read(self, text):
        try:
            read_names(text)
        except ParseError:
            return False
        return True

    def many_texts(self):
        """How many texts of one to five signs are different names of a and b with single blanks between them."""
        rows = [row for many in (1, 2, 3) for row in itertools.permutations(self.short_names(), many)]
        return sum(1 for row in rows if len(" ".join(row)) <= 5)

    def short_names(self):
        return ["".join(signs) for many in range(1, 6) for signs in itertools.product("ab", repeat=many)]

    def test_write_errors(self):
        for names in (("a", "a"), SIXTEEN + ("q",), ("Ask",), ("",), ("a", 1), ["a"], [], "a", "-", None):
            with self.assertRaises(InvalidName):
                write_names(names)
        for value in VALUES:
            if not is_names(value):
                with self.assertRaises(InvalidName):
                    write_names(value)

    def test_read_errors(self):
        wrong = ["", " ", "  ", "a  b", " a", "a ", "a\nb", "a\n", "\na", "a,b", "a, b", "a a", "a b a", "Ask", "a1",
                 "abcdefghi", "--", "- a", "a -", "- ", " -", "-\n", " ".join(SIXTEEN + ("q",)), " " * 9000]
        for text in wrong + list(VALUES):
            with self.assertRaises(ParseError) as caught:
                read_names(text)
            self.assertIsNone(caught.exception.line)

    def test_what_is_passed_stays(self):
        names = ["ask"]
        with self.assertRaises(InvalidName):
            write_names(names)
        self.assertEqual(names, ["ask"])


if __name__ == "__main__":
    unittest.main()
