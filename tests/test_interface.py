"""The interface: names, parameters, where they are defined, and attributes."""

import ast
import importlib
import inspect
import os
import unittest

from unseenflips.checks import Check
from unseenflips.desk import Desk
from unseenflips.rules import Rule

PACKAGE = os.path.join(os.path.dirname(os.path.dirname(os.path.abspath(__file__))), "unseenflips")

FUNCTIONS = {
    "lines": {"body": "(rule, message)", "taken_out": "(rule, line)", "send": "(rule, check, data)",
              "receive": "(rule, check, raw)", "frames": "(rule, check, raw)"},
    "clean": {"is_clean": "(rule)", "spoiled": "(rule)", "flag_at": "(rule, message)", "clean_paper": "(rule)",
              "clean_paper_holds": "(rule, value)"},
    "costs": {"most_put": "(rule, size)", "dearest": "(rule, size)", "all_put": "(rule, size)", "rate": "(rule)",
              "rate_paper": "(rule, value)", "rate_paper_holds": "(rule, value, paper)"},
    "comparing": {"alike": "(p, q)", "parting": "(p, q)", "could_be": "(flag, size, pairs)"},
    "hits": {"hit": "(line, hits)", "shifts": "(rule, kinds)"},
    "unseen": {"first_unseen": "(rule, check, kinds, hits, how)", "example": "(rule, check, kinds, hits, how)",
               "count_unseen": "(rule, check, kinds, size, hits, how)",
               "unseen_sizes": "(rule, check, kinds, hits, how, most)"},
    "best": {"clean_rules": "(flag, size)", "cheapest": "(flag, size)",
             "best_checks": "(rule, degree, kinds, hits, how)"},
}
CLASSES = {
    ("rules", "Rule"): {
        "__init__": "(self, flag, stuffs=())", "put": "(self, line)", "swapped": "(self)", "read": "(text)",
        "longest": None, "__len__": "(self)", "__eq__": "(self, other)", "__str__": "(self)"},
    ("checks", "Check"): {
        "__init__": "(self, poly='1', start=None)", "rest": "(self, bits)", "bits_for": "(self, data)",
        "is_good": "(self, message)", "read": "(text)", "degree": None, "__eq__": "(self, other)",
        "__str__": "(self)"},
    ("live", "Live"): {
        "__init__": "(self, rule, check)", "hear": "(self, bits)", "several": "(self, words)",
        "change": "(self, rule)", "undo": "(self)", "within": "(self, work)", "rule": None, "check": None,
        "heard": None, "is_open": None, "part": None, "found": None, "__len__": "(self)"},
    ("desk", "Desk"): {"__init__": "(self)", "say": "(self, command)"},
}
ERRORS = {
    "FlipError": [], "InvalidRule": ["word"], "InvalidCheck": ["word"], "InvalidText": ["at"], "InvalidWord": [],
    "InvalidHits": ["at"], "InvalidCommand": [], "Refused": ["at"]}


def defined(name):
    """The names that a file of the package defines, as they are written there."""
    with open(os.path.join(PACKAGE, name + ".py"), encoding="utf-8") as file:
        return {node.name: node for node in ast.parse(file.read()).body if hasattr(node, "name")}


class Interface(unittest.TestCase):
    def test_functions(self):
        for name, expected in FUNCTIONS.items():
            module = importlib.import_module("unseenflips." + name)
            for function, parameters in expected.items():
                self.assertIsInstance(defined(name)[function], ast.FunctionDef)
                self.assertEqual(str(inspect.signature(getattr(module, function))), parameters)

    def test_classes(self):
        for (name, title), expected in CLASSES.items():
            self.assertIsInstance(defined(name)[title], ast.ClassDef)
            made = getattr(importlib.import_module("unseenflips." + name), title)
            for method, parameters in expected.items():
                self.assertIn(method, vars(made))
                if parameters is None:
                    self.assertIsInstance(vars(made)[method], property)
                else:
                    self.assertEqual(str(inspect.signature(getattr(made, method))), parameters)
            if "read" in expected:
                self.assertIsInstance(vars(made)["read"], classmethod)

    def test_errors(self):
        module = importlib.import_module("unseenflips.errors")
        self.assertEqual(set(defined("errors")), set(ERRORS))
        for title, attributes in ERRORS.items():
            error = getattr(module, title)(*attributes)
            self.assertEqual(vars(error), {name: name for name in attributes})

    def test_attributes_are_set_when_an_object_is_created(self):
        self.assertEqual(vars(Rule("01110", [("11", "0")])), {"flag": "01110", "stuffs": (("11", "0"),)})
        self.assertEqual(vars(Check("11")), {"poly": "11", "start": "0"})
        self.assertEqual(vars(Desk()), {"live": None})

    def test_package_file_contains_only_a_docstring(self):
        with open(os.path.join(PACKAGE, "__init__.py"), encoding="utf-8") as file:
            body = ast.parse(file.read()).body
        self.assertEqual(len(body), 1)
        self.assertIsInstance(body[0].value.value, str)


if __name__ == "__main__":
    unittest.main()
