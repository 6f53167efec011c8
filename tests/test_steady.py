"""Tests that operators, properties and the like change nothing, by a look at the code and by calling them."""

import operator
import os
import unittest

import groupclocks
from groupclocks.clocks.carriers import Carriers
from groupclocks.clocks.clocks import Clocks
from groupclocks.clocks.watch import Watch
from groupclocks.cover.reach import Reach
from groupclocks.order.pairs import Order
from groupclocks.past.always import Past
from groupclocks.project.project import Project
from groupclocks.runs.runs import Run
from groupclocks.trace.tracer import Tracer
from tests import language, samples, steady

FOLDER = os.path.dirname(os.path.abspath(groupclocks.__file__))

# A class whose operator makes a box, with the rows of the method that makes one.
MADE_BY_OPERATOR = """
class Shelf:
    def __or__(self, other):
        return self.filled(other)
    def filled(self, other):
        return {{n: Box(n) for n in (1, 2)}}
class Box:
    def __init__(self, n):
{rows}
"""
# A class whose operator has some rows, and calls them.
IN_OPERATOR = """
class Shelf:
    def __init__(self):
        self.rows = []
    def __and__(self, other):
{rows}
        return 1
    def free(self):
        self.rows.append(2)
class Box:
    def __init__(self, rows):
        self.rows = rows
def told(rows):
    return rows
"""
CHANGES_IN_MAKING = (
    ("self.rows = []\nself.rows.append(n)", ["L5 Box.__init__: calls self.rows.append"]),
    ("self.rows = []\nfor k in (1, 2):\n    self.rows.extend([k])", ["L5 Box.__init__: calls self.rows.extend"]),
    ("self.rows = {}\nself.rows[n] = 1", ["L5 Box.__init__: changes self.rows[n]"]),
    ("self.rows = {}\nself.rows.setdefault(n, []).append(1)",
     ["L5 Box.__init__: calls self.rows.setdefault", "L5 Box.__init__: calls self.rows.setdefault(n, []).append"]),
    ("self.rows = []\nrows = self.rows\nrows.append(n)", ["L5 Box.__init__: calls rows.append"]),
    ("n.box = self", ["L5 Box.__init__: changes n.box"]),
    ("self.many = 0\nself.many += 1", ["L5 Box.__init__: changes self.many in place"]),
    ("rows = []\nrows.append(n)\nself.rows = rows", []),
    ("self.rows = [n for k in (1, 2)]\nself.table = {n: 1}", []),
)
CHANGES_IN_OPERATOR = (
    ("self.rows = [1]", ["changes self.rows"]),
    ("self.rows[0] = 1", ["changes self.rows[0]"]),
    ("del self.rows[0]", ["changes self.rows[0]"]),
    ("other.append(1)", ["calls other.append"]),
    ("self.rows.append(1)", ["calls self.rows.append"]),
    ("rows = []\nrows = self.rows\nrows.append(1)", ["calls rows.append"]),
    ("rows = other if other else []\nrows.append(1)", ["calls rows.append"]),
    ("for rows in other:\n    rows.append(1)", ["calls rows.append"]),
    ("n = 0\nn += 1", ["changes n in place"]),
    ("other(1)", ["calls other, which it was handed"]),
    ("other[0](1)", ["calls other[0], which it was handed"]),
    ("self.rows(1)", ["calls self.rows, which is held"]),
    ("setattr(other, 'n', 1)", ["calls setattr"]),
    ("rows = []\ndef inner():\n    rows.append(1)", ["calls rows.append"]),
    ("rows = []\nf = lambda n: rows.append(n)", ["calls rows.append"]),
    ("box = Box(1)\nf = told(box)\nbox.n = 1", ["changes box.n"]),
    ("box = Box(1)\nfor k in other:\n    box.n = k", ["changes box.n"]),
    ("box = Box([])\nbox.rows.append(1)", ["calls box.rows.append"]),
    ("rows = [1]\nrows.append(2)\nrows[0] = 3\ndel rows[1]", []),
    ("rows = list(other)\nrows.pop()", []),
    ("rows = other[1:]\nrows.pop()", []),
    ("rows = other + [1]\nrows.pop()", ["calls rows.pop"]),
    ("rows = list(other) + [1]\nrows.pop()", []),
    ("rows = [0] * 3\nrows[1] = 2", []),
    ("seen = set()\nseen.add(other)", []),
    ("box = Box(1)\nbox.n = 1\nbox.k = box.n", []),
    ("k = told(other)\nn = len(sorted(other, key=told))", []),
)
KEPT = """
class Shelf:
    def __init__(self):
        self.kept = None
    {head}
        if self.kept is None:
            self.kept = worked_out(self)
        return self.kept
    def forget(self):
        {rest}
def worked_out(shelf):
    return 1
"""


def indented(rows):
    """The rows, as they stand in a method."""
    return "\n".join("        " + row for row in rows.split("\n"))


class SteadyCodeTest(unittest.TestCase):
    def test_package(self):
        self.assertEqual(steady.check_steady(language.package_texts(FOLDER).values()), [])

    def test_what_operators_lead_to_is_looked_at(self):
        package = steady.Package(language.package_texts(FOLDER).values())
        reached = {function.label for function in steady.reached_by_steady(package)}
        for label in ("System.__or__", "System.__and__", "System._with_actions", "System.__init__", "Plan.__init__",
                      "Run.__add__", "Run.__init__", "_states_behind", "Clocks._stamped", "Reach.rounds",
                      "Places.have_patterns", "_write_moves", "Project.__iter__", "Tracer.__bool__"):
            self.assertIn(label, reached)
        # Only the ones with assignment, and what nobody calls without them, may change what is there.
        for label in ("Project.__iadd__", "Tracer.__isub__", "Project.put", "Tracer.add", "Run.each_possible"):
            self.assertNotIn(label, reached)

    def test_what_makes_an_object_for_an_operator(self):
        for rows, found in CHANGES_IN_MAKING:
            text = MADE_BY_OPERATOR.format(rows=indented(rows))
            self.assertEqual(steady.check_steady([text]), found, rows)
            # The same rows may stand in a class that no operator makes.
            self.assertEqual(steady.check_steady([text.replace("__or__", "either")]), [], rows)

    def test_what_an_operator_does_itself(self):
        for rows, found in CHANGES_IN_OPERATOR:
            text = IN_OPERATOR.format(rows=indented(rows))
            self.assertEqual(steady.check_steady([text]), [f"L5 Shelf.__and__: {one}" for one in found], rows)
            self.assertEqual(steady.check_steady([text.replace("__and__", "__iand__")]), [], rows)

    def test_each_kind_of_method_is_looked_at(self):
        text = IN_OPERATOR.format(rows=indented("other.append(1)"))
        for name in ("__or__", "__add__", "__radd__", "__eq__", "__lt__", "__len__", "__str__", "__repr__", "__bool__",
                     "__contains__", "__getitem__", "__iter__"):
            self.assertEqual(len(steady.check_steady([text.replace("__and__", name)])), 1, name)
        self.assertEqual(len(steady.check_steady([text.replace("def __and__", "@property\n    def many")])), 1)
        for name in ("__iadd__", "__setitem__", "__call__", "many"):
            self.assertEqual(steady.check_steady([text.replace("__and__", name)]), [], name)

    def test_files_are_looked_at_together(self):
        one, other = "class A:\n    def __len__(self):\n        return len(told([1]))\n", "def told(xs):\n    xs[0] = 1\n    return xs\n"
        self.assertEqual(steady.check_steady([one, other]), ["L5 told: changes xs[0]"])

    def test_functions_that_yield(self):
        text = "class A:\n    def __len__(self):\n        return len(list(told()))\ndef told():\n    xs = []\n    xs.append(1)\n    yield 1\n"
        self.assertEqual(steady.check_steady([text]), ["L5 told: calls xs.append"])

    def test_blocks(self):
        text = ("class A:\n    def __len__(self):\n        with Block() as b:\n            return len(b)\n"
                "class Block:\n    def __enter__(self):\n        self.n = 1\n        return []\n")
        self.assertEqual(steady.check_steady([text]), ["L5 Block.__enter__: changes self.n"])

    def test_kept_answers(self):
        head = "@property\n    def many(self):"
        self.assertEqual(steady.check_steady([KEPT.format(head=head, rest="self.kept = None")]), [])
        for rest in ("self.kept = 1", "return self.kept", "return told(kept=1)", "return 'kept'", "self.kept, k = None, 1"):
            found = steady.check_steady([KEPT.format(head=head, rest=rest)])
            self.assertEqual(found, ["L5 Shelf.many: its answer kept is not its own"], rest)
        found = steady.check_steady([KEPT.format(head="def __add__(self, other):", rest="pass")])
        self.assertEqual(found, ["L5 Shelf.__add__: changes self.kept"])


def state_of(value, known):
    """All that a value holds, deep inside, as nested tuples; `known` has the objects that were told of already."""
    if isinstance(value, (tuple, list)):
        return type(value).__name__, tuple(state_of(one, known) for one in value)
    if isinstance(value, dict):
        return "dict", tuple((state_of(key, known), state_of(one, known)) for key, one in value.items())
    if hasattr(value, "__dict__"):
        if id(value) in known:
            return "known", known[id(value)]
        known[id(value)] = len(known)
        return type(value).__name__, state_of(vars(value), known)
    return type(value).__name__, repr(value)


def own_objects():
    """An object of each class whose operators are not told to change it."""
    order = Order(samples.SERVE)
    clocks = Clocks(order, (("ask", "reply"),))
    tracer = Tracer(samples.SERVE, (2,), clocks=clocks)
    tracer.add(("ask", (0,)))
    project = Project(samples.LOCK)
    project.pin(("ordered", "take", "work"))
    run = Run(samples.SERVE, (3,), (("ask", (0,)), ("think", (1,))))
    known = Run(samples.SERVE, (2,), (("ask", (0,)), ("think", (1,))))
    known.past(1)
    reach = Reach(samples.LOCK, ((), (("client", "in", 1),)))
    return [
        samples.MAIL["get"], samples.SERVE, samples.SERVE.without(("think",)), samples.TWINS, samples.ALONE, run, known, reach,
        order, clocks, Watch(samples.MAIL, ("send",)), Carriers(Order(samples.MAIL), ("send",), ("get",)),
        Past(samples.LOCK), tracer, project,
    ]


def read_all(value):
    """Read each property of an object, and its length, truth and texts."""
    for name in dir(type(value)):
        if isinstance(getattr(type(value), name), property):
            getattr(value, name)
    for call in (len, bool, str, repr):
        outcome(call, value)


def outcome(call, *values):
    """What a call returns, or the kind of the error that it raises."""
    try:
        return call(*values)
    except (ValueError, TypeError, LookupError, OverflowError, RuntimeError) as error:
        return type(error)


SIGNS = (operator.or_, operator.and_, operator.add, operator.contains, operator.getitem, operator.eq, operator.ne)
OPERANDS = (
    "ask", "take", 0, 1, ("ask", (1,)), ("think", (0,)), ("reply", (0,)), ("ask", "reply"), ((), (("client", "in", 2),)),
    ("ordered", "take", "work"),
)


class SteadyCallsTest(unittest.TestCase):
    def test_signs_and_properties(self):
        objects = own_objects()
        for value in objects:
            # What properties keep of their answers is there from now on.
            read_all(value)
        others = [*objects, *OPERANDS, *samples.VALUES]
        before = state_of([objects, others], {})
        for value in objects:
            read_all(value)
            self.assertEqual(state_of([objects, others], {}), before, value)
            for sign in SIGNS:
                for other in others:
                    outcome(sign, value, other)
                    outcome(sign, other, value)
                self.assertEqual(state_of([objects, others], {}), before, (value, sign))

    def test_what_signs_make_is_new(self):
        whole, part = samples.SERVE, samples.SERVE.without(("think",))
        for made in (whole | part, part | whole, whole & whole):
            self.assertEqual(made.plan("ask").parts_with((1,)), whole.plan("ask").parts_with((1,)))
            self.assertIsNot(made.plan("ask"), whole.plan("ask"))
            self.assertIsNot(made.notes, whole.notes)


if __name__ == "__main__":
    unittest.main()
