"""The package as a whole: its files, its interface, and the rules of the language that a test can see."""

import ast
import builtins
import doctest
import importlib
import inspect
import os
import subprocess
import sys
import unittest

TOP = os.path.dirname(os.path.dirname(os.path.abspath(__file__)))
FOLDER = os.path.join(TOP, "twinsieve")

# For each file: its functions and classes with the names of their arguments.
INTERFACE = {
    "twinsieve.errors": {
        "SieveError": None,
        "InvalidRow": ["value"],
        "InvalidPipeline": ["value"],
        "InvalidNumber": ["value"],
        "NothingToUndo": ["value"],
        "Unreadable": ["value"],
    },
    "twinsieve.sieves": {"size": ["row"], "sieve": ["row", "pipeline"], "stages": ["row", "pipeline"]},
    "twinsieve.sizes": {
        "least_size": ["pipeline", "output"],
        "pipeline_of": ["row_size", "output"],
        "repeated_size": ["pipeline", "times", "output"],
        "repeated_size_mod": ["pipeline", "times", "output", "modulus"],
    },
    "twinsieve.shortest": {
        "count_shortest": ["pipeline", "output", "kinds"],
        "nth_shortest": ["pipeline", "output", "kinds", "number"],
        "shortest_number": ["pipeline", "row", "kinds"],
    },
    "twinsieve.parting": {"parting_row": ["first", "second"]},
    "twinsieve.counting": {"count_rows": ["length", "kinds", "pipeline", "output"]},
    "twinsieve.listing": {"pipelines": ["limit"], "count_pipelines": ["limit"], "total_cost": ["sieves"]},
    "twinsieve.results": {"results": ["row"]},
    "twinsieve.live": {"SieveRow": ["row"]},
    "twinsieve.texts": {"show_pipeline": ["pipeline"]},
    "twinsieve.readings": {"read_pipeline": ["text"]},
}
# What the language lets the package import besides its own names.
LIBRARY = {"heapq": ("heappush", "heappop"), "math": ("comb",)}
BUILTINS = (
    "len range enumerate zip min max sum abs sorted reversed int str bool list tuple dict set isinstance ord "
    "any all divmod ValueError property classmethod staticmethod"
).split()
# Methods of strings, lists, dicts and sets; add is for sets that a function keeps to itself.
METHODS = (
    "append clear copy count endswith extend find get index insert isalnum isalpha isdigit islower isspace isupper "
    "items join keys lower partition pop remove replace reverse rfind setdefault split startswith strip update upper "
    "values isascii isdecimal add"
).split()
UNDERSCORES = ("__init__", "__eq__", "__repr__", "__str__", "__len__")
STATEMENTS = (
    ast.Assign, ast.AugAssign, ast.Expr, ast.If, ast.While, ast.For, ast.Return, ast.Break, ast.Continue,
    ast.Pass, ast.Raise, ast.FunctionDef, ast.ClassDef, ast.ImportFrom, ast.Delete, ast.Try,
)


def package_files():
    found = sorted(os.listdir(FOLDER))
    return [name for name in found if name != "__pycache__"]


def text_of(name):
    with open(os.path.join(FOLDER, name), encoding="utf-8", newline="") as held:
        return held.read()


class Interface(unittest.TestCase):
    def test_names_arguments_and_files(self):
        for module, names in INTERFACE.items():
            loaded = importlib.import_module(module)
            for name, arguments in names.items():
                found = vars(loaded)[name]
                self.assertEqual(found.__module__, module)
                if arguments is not None:
                    self.assertEqual(list(inspect.signature(found).parameters), arguments)

    def test_each_module_can_be_imported_alone(self):
        for module in INTERFACE:
            command = [sys.executable, "-c", f"import {module}"]
            self.assertEqual(subprocess.run(command, cwd=TOP).returncode, 0, module)


class Readme(unittest.TestCase):
    def test_examples(self):
        result = doctest.testfile(os.path.join(TOP, "README.md"), module_relative=False)
        self.assertGreater(result.attempted, 5)
        self.assertEqual(result.failed, 0)


class Files(unittest.TestCase):
    def test_only_python_files(self):
        self.assertIn("__init__.py", package_files())
        for name in package_files():
            self.assertRegex(name, r"\A[a-z_][a-z0-9_]*\.py\Z")

    def test_characters_and_sizes(self):
        for name in package_files():
            text = text_of(name)
            self.assertTrue(all(sign == "\n" or " " <= sign <= "~" for sign in text), name)
            self.assertLess(text.count("\n"), 400, name)
            self.assertLessEqual(max(len(line) for line in text.split("\n")), 120, name)

    def test_functions_have_at_most_40_lines(self):
        for name in package_files():
            for node in ast.walk(ast.parse(text_of(name))):
                if isinstance(node, ast.FunctionDef):
                    self.assertLessEqual(node.end_lineno - node.lineno + 1, 40, (name, node.name))

    def test_imports_are_those_of_the_package(self):
        for name in package_files():
            for node in ast.walk(ast.parse(text_of(name))):
                self.assertNotIsInstance(node, ast.Import, name)
                if isinstance(node, ast.ImportFrom):
                    for alias in node.names:
                        self.assertIsNone(alias.asname, name)
                        self.check_import(name, node.module, alias.name)

    def check_import(self, name, module, imported):
        if module in LIBRARY:
            self.assertIn(imported, LIBRARY[module], name)
            return
        self.assertTrue(module.startswith("twinsieve."), name)
        self.assertEqual(vars(importlib.import_module(module))[imported].__module__, module, name)

    def test_statements_and_builtins(self):
        known = set(dir(builtins))
        for name in package_files():
            for node in ast.walk(ast.parse(text_of(name))):
                if isinstance(node, ast.stmt):
                    self.assertIsInstance(node, STATEMENTS, (name, node.lineno))
                if isinstance(node, ast.Name) and node.id in known:
                    self.assertIn(node.id, BUILTINS, (name, node.lineno))

    def test_methods(self):
        own = set()
        for name in package_files():
            own.update(node.name for node in ast.walk(ast.parse(text_of(name))) if isinstance(node, ast.FunctionDef))
        for name in package_files():
            for node in ast.walk(ast.parse(text_of(name))):
                if isinstance(node, ast.Call) and isinstance(node.func, ast.Attribute):
                    self.assertIn(node.func.attr, own.union(METHODS), (name, node.lineno))

    def test_decorators_and_double_underscores(self):
        for name in package_files():
            for node in ast.walk(ast.parse(text_of(name))):
                for decorator in getattr(node, "decorator_list", []):
                    self.assertIn(ast.unparse(decorator), ("property", "classmethod"), name)
                if isinstance(node, ast.FunctionDef) and node.name.startswith("__"):
                    self.assertIn(node.name, UNDERSCORES, name)
                if isinstance(node, (ast.Name, ast.Attribute)):
                    self.assertFalse(ast.unparse(node).split(".")[-1].startswith("__"), (name, node.lineno))

    def test_no_generator_expressions(self):
        # A class of the package has __eq__, so any, sum and their like take lists.
        for name in package_files():
            for node in ast.walk(ast.parse(text_of(name))):
                self.assertNotIsInstance(node, ast.GeneratorExp, name)


if __name__ == "__main__":
    unittest.main()
