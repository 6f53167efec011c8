"""Tests that the interface of the document exists as written: its names, parameters and places."""

import ast
import importlib
import inspect
import unittest

# For each module: its functions with their parameters, and its classes with what the document lists for them.
FUNCTIONS = {
    "groupclocks.base.words": {
        "is_integer": "(value)", "is_name": "(value)", "is_names": "(value)", "write_names": "(names)",
        "read_names": "(text)",
    },
    "groupclocks.base.systems": {"renamed_system": "(system, owners, actions)"},
}
ERRORS = {
    "ClockError": None, "InvalidName": None, "InvalidAction": None, "InvalidSystem": None, "InvalidRun": None,
    "InvalidClocks": None, "InvalidOperation": None, "ParseError": "(line)", "UnknownName": "(wanted)",
    "NotPossible": "(at)", "NothingToUndo": "(many)", "TooMany": "(limit)", "Refused": "(claim)",
    "InvalidNumber": "(given)",
}
CLASSES = {
    "groupclocks.errors": {name: (made, (), {}) for name, made in ERRORS.items()},
    "groupclocks.base.systems": {
        "Action": (
            "(called, moves)", ("called", "moves", "owners"),
            {"from_line": "(line)", "__len__": "(self)", "__eq__": None, "__str__": "(self)"},
        ),
        "System": (
            "(agents, pools, actions)", ("agents", "pools", "actions", "names", "lines"),
            {"from_lines": "(*lines)", "__getitem__": "(self, name)", "states": "(self, owner)", "__contains__": None,
             "__len__": "(self)", "__eq__": None, "__str__": "(self)", "with_action": "(self, action)",
             "without": "(self, names)", "__or__": None, "__and__": None},
        ),
    },
}


class InterfaceTest(unittest.TestCase):
    def test_functions(self):
        for path, functions in FUNCTIONS.items():
            module = importlib.import_module(path)
            defined = self.defined(ast.parse(inspect.getsource(module)))
            for name, parameters in functions.items():
                self.assertIn(name, defined)
                self.assertEqual(str(inspect.signature(getattr(module, name))), parameters, name)

    def test_classes(self):
        for path, classes in CLASSES.items():
            module = importlib.import_module(path)
            tree = ast.parse(inspect.getsource(module))
            for name, (made, properties, methods) in classes.items():
                self.assertIn(name, self.defined(tree))
                kind = getattr(module, name)
                if made is not None:
                    self.assertEqual(str(inspect.signature(kind)), made, name)
                for listed in properties:
                    self.assertIsInstance(kind.__dict__[listed], property, listed)
                for listed, parameters in methods.items():
                    self.assertIn(listed, kind.__dict__)
                    if parameters is not None:
                        self.assertEqual(str(inspect.signature(getattr(kind, listed))), parameters, listed)

    def defined(self, tree):
        """The names of the functions and classes that stand at the top of a file."""
        return [part.name for part in tree.body if isinstance(part, (ast.FunctionDef, ast.ClassDef))]


if __name__ == "__main__":
    unittest.main()
