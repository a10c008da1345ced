"""The form of the code, as far as it is easily seen: files, lines, functions, imports and words."""

import ast
import builtins
import os
import re
import unittest

PACKAGE = os.path.join(os.path.dirname(os.path.dirname(os.path.abspath(__file__))), "unseenflips")
LIBRARY = {
    "heapq": {"heappush", "heappop", "heapify", "heapreplace", "heappushpop"},
    "math": {"gcd", "lcm", "isqrt", "comb", "perm", "factorial"},
    "itertools": {"product", "combinations", "permutations"}}
BUILTINS = set(
    "len range enumerate zip min max sum abs sorted reversed int str bool bytes list tuple dict set frozenset "
    "isinstance ord repr any all divmod iter next map super property staticmethod classmethod Exception ValueError "
    "TypeError KeyError IndexError LookupError ZeroDivisionError ArithmeticError OverflowError RuntimeError "
    "NotImplementedError AttributeError StopIteration NotImplemented object float".split())
BARRED = re.compile(
    r"\b(type|typing|enum|Enum|Flag|Generic|Protocol|ABC|ABCMeta|namedtuple|register|mro|elements|open|input|law)\b")


def sources():
    """The name and the text of each file of the package."""
    for name in sorted(os.listdir(PACKAGE)):
        if name != "__pycache__":
            with open(os.path.join(PACKAGE, name), encoding="utf-8") as file:
                yield name, file.read()


def trees():
    """The name and the tree of each file of the package."""
    for name, text in sources():
        yield name, ast.parse(text)


class Form(unittest.TestCase):
    def test_files(self):
        for name, text in sources():
            self.assertRegex(name, r"^[a-z_]+\.py$")
            self.assertLess(text.count("\n"), 400, name)
            self.assertRegex(text, r"\A[\n -~]*\Z", name)
            self.assertTrue(all(len(line) <= 120 for line in text.split("\n")), name)

    def test_functions_are_short(self):
        for name, tree in trees():
            for node in ast.walk(tree):
                if isinstance(node, ast.FunctionDef):
                    self.assertLessEqual(node.end_lineno - node.lineno + 1, 40, (name, node.name))

    def test_imports(self):
        for name, tree in trees():
            for node in ast.walk(tree):
                self.assertNotIsInstance(node, ast.Import, name)
                if isinstance(node, ast.ImportFrom):
                    allowed = LIBRARY.get(node.module)
                    for alias in node.names:
                        self.assertIsNone(alias.asname, name)
                        self.assertIn(alias.name, allowed or self.defined(node.module), name)

    def defined(self, module):
        package, file = module.split(".")
        self.assertEqual(package, "unseenflips")
        found = []
        for node in dict(trees())[file + ".py"].body:
            if isinstance(node, ast.Assign):
                found += [target.id for target in node.targets]
            elif hasattr(node, "name"):
                found.append(node.name)
        return found

    def test_names_of_imports_mean_nothing_else(self):
        for name, tree in trees():
            imported = {alias.name for node in tree.body if isinstance(node, ast.ImportFrom) for alias in node.names}
            for node in ast.walk(tree):
                if isinstance(node, ast.Name) and isinstance(node.ctx, ast.Store):
                    self.assertNotIn(node.id, imported, name)
                if isinstance(node, ast.arg):
                    self.assertNotIn(node.arg, imported, name)

    def test_properties_have_names_of_their_own(self):
        properties, others = set(), set()
        for name, tree in trees():
            for node in ast.walk(tree):
                if isinstance(node, ast.FunctionDef):
                    decorators = [getattr(part, "id", None) for part in node.decorator_list]
                    (properties if "property" in decorators else others).add(node.name)
                if isinstance(node, ast.Attribute) and isinstance(node.ctx, ast.Store):
                    others.add(node.attr)
        self.assertEqual(properties & others, set())
        self.assertLessEqual({"longest", "degree", "heard", "found"}, properties)

    def test_one_lambda_on_a_line(self):
        for name, tree in trees():
            lines = [node.lineno for node in ast.walk(tree) if isinstance(node, ast.Lambda)]
            self.assertEqual(len(lines), len(set(lines)), name)

    def test_no_generator_expressions(self):
        # Where a class has a length or can be equal, only lists are passed on, so lists stand everywhere.
        for name, tree in trees():
            for node in ast.walk(tree):
                self.assertNotIsInstance(node, ast.GeneratorExp, name)

    def test_only_own_errors_are_caught(self):
        own = self.defined("unseenflips.errors")
        for name, tree in trees():
            for node in ast.walk(tree):
                if isinstance(node, ast.ExceptHandler):
                    self.assertIn(node.type.id, own, name)

    def test_barred_words(self):
        for name, tree in trees():
            for node in ast.walk(tree):
                for word in (getattr(node, field, None) for field in ("id", "name", "attr", "arg")):
                    if isinstance(word, str):
                        self.assertNotRegex(word, BARRED, name)
                        self.assertRegex(word, r"^(_?[A-Za-z][A-Za-z0-9_]*|_|__[a-z]+__)$", name)

    def test_only_these_builtins(self):
        known = {name for name in dir(builtins) if name.strip("_")} - BUILTINS - {"True", "False", "None"}
        for name, tree in trees():
            for node in ast.walk(tree):
                if isinstance(node, ast.Name):
                    self.assertNotIn(node.id, known, name)

    def test_no_floats_and_no_such_statements(self):
        barred = (ast.Div, ast.Global, ast.AsyncFunctionDef, ast.Await)
        for name, tree in trees():
            for node in ast.walk(tree):
                self.assertNotIsInstance(node, barred, name)
                if isinstance(node, ast.Constant):
                    self.assertNotIsInstance(node.value, (float, complex), name)
                    self.assertNotIn("%", str(node.value), name)


if __name__ == "__main__":
    unittest.main()
