"""Tests that the files of the package keep to the plainest rules of ../shared/LANGUAGE.md, and to the interface."""

import ast
import builtins
import importlib
import unittest
from pathlib import Path

PACKAGE = Path(__file__).resolve().parent.parent / "mintlaw"
LIBRARY = {"__future__", "heapq", "math", "itertools", "collections"}
BUILTINS = set(
    "len range enumerate zip min max sum abs sorted reversed int str bool bytes list tuple dict set frozenset"
    " isinstance ord repr any all divmod pow getattr hasattr setattr iter next super property staticmethod classmethod"
    " type Exception ValueError TypeError KeyError IndexError LookupError ZeroDivisionError ArithmeticError"
    " OverflowError RuntimeError NotImplementedError AttributeError StopIteration NotImplemented".split()
)
BARRED = (ast.AsyncFunctionDef, ast.AsyncFor, ast.AsyncWith, ast.Await, ast.Div)
TOP = (ast.Import, ast.ImportFrom, ast.FunctionDef, ast.ClassDef, ast.Assign, ast.Expr)
INTERFACE = {
    "errors": "MintError BadText BadSystem BadPlan NotPossible BadLogs",
    "books": "is_name is_book is_stock is_extended is_run move_index",
    "texts": "print_book print_stock print_run read_book read_stock read_extended read_run",
}


def package_files():
    """Return the paths of what lies in the package, without what Python itself lays there."""
    return sorted(path for path in PACKAGE.rglob("*") if "__pycache__" not in path.parts)


class LanguageTests(unittest.TestCase):
    def setUp(self):
        self.texts = {path.name: path.read_text("utf-8") for path in package_files()}
        self.trees = {name: ast.parse(text) for name, text in self.texts.items()}

    def test_files(self):
        for path in package_files():
            self.assertRegex(path.name, r"\A[a-z0-9_]+\.py\Z")
        self.assertIn("__init__.py", self.texts)
        self.assertLessEqual(len(self.texts), 100)

    def test_characters_and_sizes(self):
        for name, text in self.texts.items():
            self.assertTrue(all(" " <= sign <= "~" or sign == "\n" for sign in text), name)
            lines = text.split("\n")
            self.assertLessEqual(len(lines) - 1, 399, name)
            self.assertLessEqual(max(len(line) for line in lines), 120, name)

    def test_lengths_of_functions(self):
        for name, node in self.nodes(ast.FunctionDef):
            self.assertLessEqual(node.end_lineno - node.lineno + 1, 40, (name, node.name))

    def test_imports(self):
        for name, node in self.nodes(ast.ImportFrom):
            self.assertEqual(node.level, 0, name)
            self.assertTrue(node.module in LIBRARY or node.module.startswith("mintlaw."), (name, node.module))
            for alias in node.names:
                self.assertNotEqual(alias.name, "*", name)
        for name, _ in self.nodes(ast.Import):
            self.assertEqual(name, "__main__.py")

    def test_statements_at_module_level(self):
        for name, tree in self.trees.items():
            for node in tree.body:
                self.assertTrue(isinstance(node, TOP) or name == "__main__.py", (name, node.lineno))

    def test_each_name_is_bound_once_at_module_level(self):
        for name, tree in self.trees.items():
            bound = []
            for node in tree.body:
                if isinstance(node, ast.ImportFrom):
                    bound.extend(alias.asname or alias.name for alias in node.names)
                elif isinstance(node, (ast.FunctionDef, ast.ClassDef)):
                    bound.append(node.name)
                elif isinstance(node, ast.Assign):
                    bound.extend(target.id for target in node.targets)
            self.assertEqual(len(bound), len(set(bound)), name)

    def test_builtins(self):
        known = set(dir(builtins))
        for name, node in self.nodes(ast.Name):
            if node.id in known and name != "__main__.py":
                self.assertIn(node.id, BUILTINS, (name, node.lineno))
                self.assertIsInstance(node.ctx, ast.Load, (name, node.lineno))
        for name, node in self.nodes(ast.arg):
            self.assertNotIn(node.arg, known, (name, node.lineno))

    def test_nodes_that_are_barred(self):
        for name, node in self.nodes(BARRED):
            self.fail(f"{name}: {node}")
        for name, node in self.nodes(ast.Constant):
            self.assertNotIsInstance(node.value, (float, complex), (name, node.lineno))

    def nodes(self, kind):
        for name, tree in self.trees.items():
            for node in ast.walk(tree):
                if isinstance(node, kind):
                    yield name, node


class InterfaceTests(unittest.TestCase):
    def test_each_name_is_defined_in_its_file(self):
        for module, names in INTERFACE.items():
            for name in names.split():
                defined = getattr(importlib.import_module(f"mintlaw.{module}"), name)
                self.assertEqual(defined.__module__, f"mintlaw.{module}")
                self.assertTrue(defined.__doc__)


if __name__ == "__main__":
    unittest.main()
