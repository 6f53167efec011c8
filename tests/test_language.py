"""Tests that the files of the package keep to the rules of the language that a look at the code can tell."""

import os
import unittest

import groupclocks
from tests import language

FOLDER = os.path.dirname(os.path.abspath(groupclocks.__file__))
# Each of these breaks just the rule that is named.
BROKEN = (
    ("L2", "import os\n"), ("L2", "from os import path\n"), ("L2", "from groupclocks.errors import *\n"),
    ("L2", "from . import errors\n"), ("L2", "A = 1\nfrom groupclocks.errors import TooMany\n"),
    ("L2", "from groupclocks.errors import TooMany as Many\n"), ("L3", "A = len('ab')\n"), ("L3", "A, B = 0, 1\n"),
    ("L3", "if True:\n    A = 1\n"), ("L4", "@f\ndef g():\n    pass\n"), ("L4", "def g(x=[]):\n    pass\n"),
    ("L5", "class A:\n    def __hash__(self):\n        return 1\n"),
    ("L5", "class A:\n    def __getitem__(self, at):\n        return 1\n"),
    ("L6", "async def f():\n    pass\n"), ("L7", "def f():\n    return 1.5\n"), ("L7", "def f(a):\n    return a / 2\n"),
    ("L7", "def f(a, b):\n    return a[(1, *b)]\n"), ("L7", "def f(a):\n    return any(b for b in a)\n"),
    ("L8", "def f(x):\n    return hash(x)\n"), ("L8", "def f(x):\n    return open(x)\n"),
    ("L10", "A = '" + "x" * 120 + "'\n"), ("L10", "A = 1\n" * 400), ("L10", "def f():\n" + "    pass\n" * 40),
    ("L5", "def __f():\n    pass\n"), ("L12", "def _1():\n    pass\n"), ("L12", "_wall = 1\n"), ("L14", "A = '\u00e9'\n"), ("L14", "def f():\n\tpass\n"),
    ("L15", "A = 1\nA = 2\n"), ("L15", "def f(sum):\n    return sum\n"), ("L15", "def f():\n    id = 1\n"),
    ("L15", "class A:\n    pass\n\n\ndef g(A):\n    pass\n"), ("L15", "def len(x):\n    return x\n"),
    ("L17", "A = 'dataclass'\n"), ("L17", "def register():\n    pass\n"), ("L17", "A = 'an enum'\n"),
    ("L19", "def f():\n    try:\n        pass\n    except Exception:\n        pass\n"),
    ("L20", "def f(a, b):\n    return a is b\n"), ("L25", "def f(a):\n    return a.encode()\n"),
    ("L27", "A = 'a % b'\n"), ("L27", "def f(a, b):\n    return a ** b\n"), ("L27", "def f():\n    return 2 ** 65\n"),
)


class LanguageTest(unittest.TestCase):
    def setUp(self):
        self.texts = language.package_texts(FOLDER)

    def test_files(self):
        self.assertEqual(language.check_places(FOLDER), [])

    def test_imports_in_no_circle(self):
        self.assertEqual(language.check_circles(self.texts), [])

    def test_each_file(self):
        known = language.own_attributes(self.texts.values())
        for name, text in self.texts.items():
            self.assertEqual(language.check_source(text, known), [], name)

    def test_names(self):
        self.assertEqual(language.check_names(self.texts.values()), [])

    def test_the_check_finds_names_that_mean_several_things(self):
        texts = (
            "class A:\n    @property\n    def a(self):\n        return 1\n", "class B:\n    def a(self):\n        return 1\n",
            "class C:\n    def __init__(self):\n        self.a = 1\n", "def g():\n    yield 1\n", "class D:\n    def g(self):\n        return 1\n",
        )
        self.assertEqual(len(language.check_names(texts)), 3)

    def test_the_check_finds_what_is_broken(self):
        for rule, text in BROKEN:
            found = language.check_source(text)
            self.assertTrue([one for one in found if one.startswith(rule + " ")], (rule, text, found))

    def test_the_check_finds_circles(self):
        one, other = "from groupclocks.b import x\n", "from groupclocks.a import y\n"
        self.assertEqual(len(language.check_circles({"groupclocks.a": one, "groupclocks.b": other})), 2)
        self.assertEqual(language.check_circles({"groupclocks.a": one, "groupclocks.b": "x = 1\n"}), [])


if __name__ == "__main__":
    unittest.main()
