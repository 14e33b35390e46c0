"""Tests that the files of the package keep to the plainest rules of ../shared/LANGUAGE.md, and to the interface."""

import ast
import builtins
import importlib
import inspect
import unittest
from pathlib import Path

PACKAGE = Path(__file__).resolve().parent.parent / "mintlaw"
LIBRARY = {"__future__", "heapq", "math", "itertools", "collections"}
BUILTINS = set(
    "len range enumerate zip min max sum abs sorted reversed int str bool bytes list tuple dict set frozenset"
    " isinstance ord repr any all divmod pow getattr hasattr setattr iter next super property staticmethod classmethod"
    " type Exception ValueError TypeError KeyError IndexError LookupError ZeroDivisionError ArithmeticError"
    " OverflowError RuntimeError NotImplementedError AttributeError StopIteration NotImplemented".split()
)
BARRED = (ast.AsyncFunctionDef, ast.AsyncFor, ast.AsyncWith, ast.Await, ast.Div)
TOP = (ast.Import, ast.ImportFrom, ast.FunctionDef, ast.ClassDef, ast.Assign, ast.Expr)
INTERFACE = {
    "errors": ["MintError", "BadText", "BadSystem", "BadPlan", "NotPossible", "BadLogs"],
    "books": ["is_name(value)", "is_book(value)", "is_stock(book, value)", "is_extended(book, value)",
              "is_run(book, value)", "move_index(book, name)"],
    "texts": ["print_book(book)", "print_stock(book, stock)", "print_run(book, run)", "read_book(text)",
              "read_stock(book, text)", "read_extended(book, text)", "read_run(book, text)"],
    "runs": ["can_do(book, stock, m)", "done(book, stock, m)", "need(book, run)", "change(book, run)", "length(run)",
             "end_of_run(book, stock, run)", "stops_at(book, stock, run)", "covers(stock, other)"],
    "systems": ["is_system(width, system)", "solves(width, system, point)", "refutes(width, system, refutation)",
                "solve(width, system)"],
    "least": ["value(cost, point)", "shows(width, system, cost, witness)", "least(width, system, cost)"],
    "prices": ["worth(prices, stock)", "are_prices(book, value)", "is_loop(book, value)", "gain(book, loop)",
               "parting(book)", "is_parting(book, value)", "free_kinds(book)", "loop_run(book, loop)"],
    "bounds": ["price_bound(book, stock, k)", "is_price_bound(book, stock, k, value)"],
    "extended": ["in_order(rows)", "behind(book, label, run)"],
    "plans": ["is_plan(book, value)", "labels(book, stock, plan)", "end_of(book, stock, plan)",
              "run_for(book, stock, plan, number)"],
    "covering": ["greatest(book, stock)", "report(book, stock)", "is_closed(book, stock, rows)",
                 "is_report(book, stock, value)", "most_of(book, stock, k)", "run_to_most(book, stock, k)"],
    "boxes": ["box_stocks(book, b)", "without_end(book, stock, k)", "frontier(book, k, b)", "border(book, k, b)",
              "is_border(book, k, b, value)"],
    "histories": ["is_history(book, value)", "flow(book, history, number)", "carry_out(book, history)",
                  "audit(book, history, prices)", "logs_of(history)", "merged(logs)"],
    "recalls": ["is_recall(book, history, value)", "strike(book, history, recall)",
                "stands(book, history, recall, refunds)", "refunds(book, history, recall)",
                "refund_paper(book, history, recall)", "check_refunds(book, history, recall, refunds, paper)",
                "ends(book, history, recall, refunds)", "cheapest(book, history, recall, prices, most)"],
    "sessions": ["Session(book)"],
    "verdicts": ["verdict(book, stock)", "is_verdict(book, stock, value)"],
    "cures": ["without(book, indexes)", "least_cure(book, k)", "is_cure(book, k, value)"],
    "verdict_texts": ["print_plan(book, plan)", "print_verdict(book, verdict)", "read_plan(book, text)",
                      "read_verdict(book, text)", "check_text(book, stock, text)"],
}
METHODS = {"Session": ["enter(self, line)", "book(self)", "history(self)"]}


def package_files():
    """Return the paths of what lies in the package, without what Python itself lays there."""
    return sorted(path for path in PACKAGE.rglob("*") if "__pycache__" not in path.parts)


class LanguageTests(unittest.TestCase):
    def setUp(self):
        self.texts = {path.name: path.read_text("utf-8") for path in package_files()}
        self.trees = {name: ast.parse(text) for name, text in self.texts.items()}

    def test_files(self):
        for path in package_files():
            self.assertRegex(path.name, r"\A[a-z0-9_]+\.py\Z")
        self.assertIn("__init__.py", self.texts)
        self.assertLessEqual(len(self.texts), 100)

    def test_characters_and_sizes(self):
        for name, text in self.texts.items():
            self.assertTrue(all(" " <= sign <= "~" or sign == "\n" for sign in text), name)
            lines = text.split("\n")
            self.assertLessEqual(len(lines) - 1, 399, name)
            self.assertLessEqual(max(len(line) for line in lines), 120, name)

    def test_lengths_of_functions(self):
        for name, node in self.nodes(ast.FunctionDef):
            self.assertLessEqual(node.end_lineno - node.lineno + 1, 40, (name, node.name))

    def test_imports(self):
        for name, node in self.nodes(ast.ImportFrom):
            self.assertEqual(node.level, 0, name)
            self.assertTrue(node.module in LIBRARY or node.module.startswith("mintlaw."), (name, node.module))
            for alias in node.names:
                self.assertNotEqual(alias.name, "*", name)
        for name, _ in self.nodes(ast.Import):
            self.assertEqual(name, "__main__.py")

    def test_statements_at_module_level(self):
        for name, tree in self.trees.items():
            for node in tree.body:
                self.assertTrue(isinstance(node, TOP) or name == "__main__.py", (name, node.lineno))

    def test_each_name_is_bound_once_at_module_level(self):
        for name, tree in self.trees.items():
            bound = []
            for node in tree.body:
                if isinstance(node, ast.ImportFrom):
                    bound.extend(alias.asname or alias.name for alias in node.names)
                elif isinstance(node, (ast.FunctionDef, ast.ClassDef)):
                    bound.append(node.name)
                elif isinstance(node, ast.Assign):
                    bound.extend(target.id for target in node.targets)
            self.assertEqual(len(bound), len(set(bound)), name)

    def test_no_variable_has_the_name_of_a_class_or_an_import(self):
        for name, tree in self.trees.items():
            barred = set()
            for node in tree.body:
                if isinstance(node, ast.ImportFrom):
                    barred.update(alias.asname or alias.name for alias in node.names)
                elif isinstance(node, ast.ClassDef):
                    barred.add(node.name)
            for node in ast.walk(tree):
                if isinstance(node, ast.arg):
                    self.assertNotIn(node.arg, barred, (name, node.lineno))
                if isinstance(node, ast.Name) and not isinstance(node.ctx, ast.Load):
                    self.assertNotIn(node.id, barred, (name, node.lineno))

    def test_no_two_files_import_from_each_other(self):
        wanted = {}
        for name, node in self.nodes(ast.ImportFrom):
            wanted.setdefault(name, set()).add(node.module.rpartition(".")[2] + ".py")
        for name in self.trees:
            seen = list(wanted.get(name, ()))
            for other in seen:
                self.assertNotEqual(other, name)
                seen.extend(third for third in wanted.get(other, ()) if third not in seen)

    def test_builtins(self):
        known = set(dir(builtins))
        for name, node in self.nodes(ast.Name):
            if node.id in known and name != "__main__.py":
                self.assertIn(node.id, BUILTINS, (name, node.lineno))
                self.assertIsInstance(node.ctx, ast.Load, (name, node.lineno))
        for name, node in self.nodes(ast.arg):
            self.assertNotIn(node.arg, known, (name, node.lineno))

    def test_nodes_that_are_barred(self):
        for name, node in self.nodes(BARRED):
            self.fail(f"{name}: {node}")
        for name, node in self.nodes(ast.Constant):
            self.assertNotIsInstance(node.value, (float, complex), (name, node.lineno))

    def nodes(self, kind):
        for name, tree in self.trees.items():
            for node in ast.walk(tree):
                if isinstance(node, kind):
                    yield name, node


class InterfaceTests(unittest.TestCase):
    def test_each_name_is_defined_in_its_file(self):
        for module, entries in INTERFACE.items():
            for entry in entries:
                name, _, arguments = entry.partition("(")
                defined = getattr(importlib.import_module(f"mintlaw.{module}"), name)
                self.assertEqual(defined.__module__, f"mintlaw.{module}")
                self.assertTrue(defined.__doc__)
                if arguments != "":
                    self.assertEqual(str(inspect.signature(defined)), "(" + arguments)

    def test_each_method_is_defined_in_its_class(self):
        for name, entries in METHODS.items():
            for entry in entries:
                method = vars(getattr(importlib.import_module("mintlaw.sessions"), name))[entry.partition("(")[0]]
                self.assertEqual(method.__name__ + str(inspect.signature(method)), entry)


if __name__ == "__main__":
    unittest.main()
