"""Tests that the interface of the document exists as written: its names, parameters and places."""

import ast
import importlib
import inspect
import unittest

# For each module: its functions with their parameters, and its classes with what the document lists for them.
FUNCTIONS = {
    "groupclocks.base.words": {
        "is_integer": "(value)", "is_name": "(value)", "is_names": "(value)", "write_names": "(names)",
        "read_names": "(text)",
    },
    "groupclocks.base.systems": {"renamed_system": "(system, owners, actions)"},
    "groupclocks.runs.runs": {"is_event": "(system, value)", "is_numbers": "(system, value)"},
    "groupclocks.cover.patterns": {
        "is_pattern": "(system, value)", "is_target": "(system, value)", "is_below": "(system, pattern, value)",
        "does_match": "(run, pattern)", "start_row": "(system, pattern)", "needs_of": "(system, name)",
        "needs_of_both": "(system, one, other)", "pattern_ahead": "(system, name, pattern)",
        "least_patterns": "(system, patterns)",
    },
    "groupclocks.cover.reach": {
        "is_closed": "(system, target, value)", "is_certificate": "(system, target, value)",
    },
    "groupclocks.order.pairs": {
        "is_ordered": "(system, one, other)", "is_order_certificate": "(system, one, other, value)",
    },
    "groupclocks.order.groups": {
        "is_group": "(order, value)", "loose_actions": "(order)", "greatest_groups": "(order, names)",
        "fewest_groups": "(order, names)", "how_many": "(order, names)", "each_partition": "(order, names)",
        "parted_run": "(order, names)",
    },
    "groupclocks.past.always": {
        "is_always": "(system, names, other)", "is_never": "(system, names, other)",
        "always_certificate": "(system, names, other)", "never_certificate": "(system, names, other)",
        "is_always_certificate": "(system, names, other, value)",
        "is_never_certificate": "(system, names, other, value)",
    },
    "groupclocks.past.repairs": {
        "least_repairs": "(system, one, other)", "least_blocks": "(system, target)",
        "is_repair": "(system, one, other, value)", "is_block": "(system, target, value)",
        "repair_certificate": "(system, one, other, names)", "block_certificate": "(system, target, names)",
        "is_repair_certificate": "(system, one, other, names, value)",
        "is_block_certificate": "(system, target, names, value)",
    },
    "groupclocks.project.project": {"fits_in": "(system, value)", "holds_in": "(system, value)"},
    "groupclocks.text.texts": {
        "write_system": "(system)", "write_run": "(run)", "write_pattern": "(system, pattern)",
        "write_certificate": "(system, value)", "write_claim": "(system, claim)", "read_system": "(text)",
        "read_run": "(system, text)", "read_pattern": "(system, text)", "read_certificate": "(system, text)",
        "read_claim": "(system, text)",
    },
}
CONSTANTS = {
    "groupclocks.base.words": {"MAX_LETTERS": 8, "MAX_NAMES": 16},
    "groupclocks.base.systems": {
        "MAX_AGENTS": 5, "MAX_POOLS": 3, "MAX_STATES": 6, "MAX_ACTIONS": 16, "MAX_MOVES": 4, "MAX_SHARED": 3,
    },
    "groupclocks.runs.runs": {"MAX_MEMBERS": 2000, "MAX_EVENTS": 2000},
    "groupclocks.cover.patterns": {"MAX_TARGET": 40},
    "groupclocks.cover.reach": {"MAX_ROUND": 400, "MAX_CLOSED": 2000},
    "groupclocks.order.groups": {"MAX_ASKED": 12},
    "groupclocks.clocks.watch": {"TAGS": ("fresh", "behind", "told")},
    "groupclocks.clocks.carriers": {"MAX_QUESTION": 6},
    "groupclocks.past.repairs": {"MAX_OTHERS": 10, "MAX_TAKEN": 3},
    "groupclocks.trace.tracer": {"MAX_TOGETHER": 3},
    "groupclocks.project.project": {"MAX_CLAIMS": 20},
}
ERRORS = {
    "ClockError": None, "InvalidName": None, "InvalidAction": None, "InvalidSystem": None, "InvalidRun": None,
    "InvalidClocks": None, "InvalidOperation": None, "ParseError": "(line)", "UnknownName": "(wanted)",
    "NotPossible": "(at)", "NothingToUndo": "(many)", "TooMany": "(limit)", "Refused": "(claim)",
    "InvalidNumber": "(given)",
}
CLASSES = {
    "groupclocks.errors": {name: (made, (), {}) for name, made in ERRORS.items()},
    "groupclocks.base.systems": {
        "Action": (
            "(called, moves)", ("called", "moves", "owners"),
            {"from_line": "(line)", "__len__": "(self)", "__eq__": None, "__str__": "(self)"},
        ),
        "System": (
            "(agents, pools, actions)", ("agents", "pools", "actions", "names", "lines"),
            {"from_lines": "(*lines)", "__getitem__": "(self, name)", "states": "(self, owner)", "__contains__": None,
             "__len__": "(self)", "__eq__": None, "__str__": "(self)", "with_action": "(self, action)",
             "without": "(self, names)", "__or__": None, "__and__": None},
        ),
    },
    "groupclocks.runs.runs": {
        "Run": (
            "(system, numbers, events=())", ("system", "numbers", "events", "finals"),
            {"__getitem__": "(self, index)", "__len__": "(self)", "__eq__": None, "__str__": "(self)",
             "participants": "(self, index)", "past": "(self, index)", "is_before": "(self, one, other)",
             "is_concurrent": "(self, one, other)", "each_possible": "(self)", "__add__": None,
             "part": "(self, indices)", "widened": "(self, numbers)", "each_order": "(self)",
             "is_same": "(self, value)"},
        ),
    },
    "groupclocks.cover.reach": {
        "Reach": (
            "(system, target)",
            ("system", "target", "rounds", "closed", "rows", "fewest", "steps", "is_reachable"),
            {"run": "(self, *, numbers=None)", "certificate": "(self)", "__contains__": None, "__len__": "(self)",
             "__eq__": None, "__str__": "(self)"},
        ),
    },
    "groupclocks.order.pairs": {
        "Order": (
            "(system)", ("system", "ordered", "concurrent"),
            {"is_ordered": "(self, one, other)", "least_members": "(self, one, other)",
             "certificate": "(self, one, other)", "run": "(self, one, other)", "__contains__": None,
             "__len__": "(self)", "__eq__": None, "__str__": "(self)"},
        ),
    },
    "groupclocks.clocks.clocks": {
        "Clocks": (
            "(order, groups, *, carriers=None)", ("system", "groups", "carriers"),
            {"group_of": "(self, name)", "stamps": "(self, run)", "kept": "(self, run)", "right": "(self, run)",
             "first_wrong": "(self, run)", "is_told": "(self, run, one, other)", "__len__": "(self)",
             "__eq__": None, "__str__": "(self)"},
        ),
    },
    "groupclocks.clocks.watch": {
        "Watch": (
            "(system, starts, *, barred=(), carriers=())", ("system", "starts", "barred", "carriers"),
            {"tags": "(self, run, index)", "is_pattern": "(self, value)", "is_match": "(self, run, index, pattern)",
             "ahead": "(self, name, pattern)", "first": "(self, name, pattern)", "certificate": "(self, targets)",
             "is_certificate": "(self, targets, value)", "__eq__": None, "__str__": "(self)"},
        ),
    },
    "groupclocks.clocks.carriers": {
        "Carriers": (
            "(order, group, asked)", ("system", "group", "asked", "question", "targets"),
            {"is_enough": "(self, names)", "certificate": "(self, names)", "is_certificate": "(self, names, value)",
             "least_sets": "(self)", "greatest_sets": "(self)", "__eq__": None, "__str__": "(self)"},
        ),
    },
    "groupclocks.past.always": {
        "Past": (
            "(system)", ("system", "always", "never", "idle"),
            {"says": "(self, one, other)", "__eq__": None, "__str__": "(self)"},
        ),
    },
    "groupclocks.trace.tracer": {
        "Tracer": (
            "(system, numbers, *, clocks=None)", ("record", "clocks", "told"),
            {"add": "(self, event)", "__iadd__": None, "__getitem__": None, "__len__": "(self)", "__bool__": "(self)",
             "__eq__": None, "__str__": "(self)", "stays": "(self, participant)", "can_meet": "(self, *wishes)",
             "must_meet": "(self, *wishes)", "meeting": "(self, *wishes)", "parting": "(self, *wishes)",
             "is_meeting": "(self, value, *wishes)", "is_parting": "(self, value, *wishes)",
             "undo": "(self, *, many=1)", "trial": "(self)", "during": "(self, call)", "twin": "(self)"},
        ),
    },
    "groupclocks.project.project": {
        "Project": (
            "(system)", ("system", "claims", "order", "turned"),
            {"put": "(self, action)", "__iadd__": None, "drop": "(self, name)", "__isub__": None,
             "pin": "(self, claim)", "unpin": "(self, claim)", "__getitem__": None, "__iter__": "(self)",
             "__contains__": None, "__len__": "(self)", "__eq__": None, "__str__": "(self)",
             "undo": "(self, *, many=1)", "trial": "(self)", "during": "(self, call)", "twin": "(self)"},
        ),
    },
    "groupclocks.text.shell": {
        "Shell": ("(text)", (), {"project": "(self)", "run": "(self, line)", "__call__": "(self, line)"}),
    },
}


class InterfaceTest(unittest.TestCase):
    def test_functions(self):
        for path, functions in FUNCTIONS.items():
            module = importlib.import_module(path)
            defined = self.defined(ast.parse(inspect.getsource(module)))
            for name, parameters in functions.items():
                self.assertIn(name, defined)
                self.assertEqual(str(inspect.signature(getattr(module, name))), parameters, name)

    def test_constants(self):
        for path, constants in CONSTANTS.items():
            module = importlib.import_module(path)
            for name, value in constants.items():
                self.assertEqual(getattr(module, name), value, name)

    def test_classes(self):
        for path, classes in CLASSES.items():
            module = importlib.import_module(path)
            tree = ast.parse(inspect.getsource(module))
            for name, (made, properties, methods) in classes.items():
                self.assertIn(name, self.defined(tree))
                kind = getattr(module, name)
                if made is not None:
                    self.assertEqual(str(inspect.signature(kind)), made, name)
                for listed in properties:
                    self.assertIsInstance(kind.__dict__[listed], property, listed)
                for listed, parameters in methods.items():
                    self.assertIn(listed, kind.__dict__)
                    if parameters is not None:
                        self.assertEqual(str(inspect.signature(getattr(kind, listed))), parameters, listed)

    def defined(self, tree):
        """The names of the functions and classes that stand at the top of a file."""
        return [part.name for part in tree.body if isinstance(part, (ast.FunctionDef, ast.ClassDef))]


if __name__ == "__main__":
    unittest.main()
