"""The names, arguments and places that the interface lists, and the sizes the language allows."""

import ast
import builtins
import inspect
import pathlib
import unittest

from headsgrow import bases, cutting, errors, texts, trees, whole

PACKAGE = pathlib.Path(__file__).resolve().parent.parent / "headsgrow"
ARGUMENTS = {
    trees: {
        "told": ["tree"],
        "compare": ["one", "other"],
        "together": ["one", "other"],
        "behind": ["one", "other"],
    },
    cutting: {"heads": ["tree"], "cut": ["tree", "way", "times"]},
    bases: {
        "written": ["number", "base"],
        "number_of": ["tree", "base"],
        "stepped": ["number", "base"],
    },
    texts: {"text": ["tree"], "read": ["text"]},
}
BUILTINS = (
    "all", "any", "divmod", "enumerate", "isinstance", "len", "list", "max", "min", "range",
    "reversed", "sorted", "sum", "int", "bool", "str", "ValueError", "True", "False",
)
IMPORTED = ("headsgrow", "collections", "heapq", "itertools", "math", "__future__")


class Interface(unittest.TestCase):
    def test_functions_are_defined_where_they_are_listed(self):
        for module, functions in ARGUMENTS.items():
            for name, arguments in functions.items():
                function = getattr(module, name)
                self.assertTrue(inspect.isfunction(function), name)
                self.assertEqual(function.__module__, module.__name__)
                self.assertEqual(function.__name__, name)
                parameters = inspect.signature(function).parameters.values()
                self.assertEqual([given.name for given in parameters], arguments)
                self.assertTrue(all(given.default is given.empty for given in parameters), name)

    def test_arguments_may_be_named(self):
        self.assertEqual(trees.compare(one=[[]], other=[]), 1)
        self.assertEqual(cutting.cut(tree=[[[]]], way=[0, 0], times=1), [[], []])
        self.assertEqual(bases.number_of(tree=bases.written(number=5, base=2), base=2), 5)
        self.assertEqual(bases.stepped(number=3, base=2), 3)
        self.assertEqual(texts.read(text=texts.text(tree=[[]])), [[]])


class Form(unittest.TestCase):
    def files(self):
        return sorted(PACKAGE.rglob("*.py"))

    def test_the_folder_holds_nothing_else(self):
        others = [
            path.name for path in PACKAGE.rglob("*")
            if path.is_file() and path.suffix != ".py" and path.parent.name != "__pycache__"
        ]
        self.assertEqual(others, [])
        self.assertTrue((PACKAGE / "__init__.py").is_file())

    def test_rows_and_characters(self):
        for path in self.files():
            text = path.read_text(encoding="utf-8")
            self.assertTrue(all(sign == "\n" or " " <= sign <= "~" for sign in text), path)
            self.assertLessEqual(len(text.splitlines()), 399, path)
            self.assertTrue(all(len(row) <= 120 for row in text.splitlines()), path)

    def test_functions_are_small(self):
        for path in self.files():
            for node in ast.walk(ast.parse(path.read_text(encoding="utf-8"))):
                if isinstance(node, ast.FunctionDef):
                    self.assertLess(node.end_lineno - node.lineno, 40, (path, node.name))

    def test_no_outside_package(self):
        for path in self.files():
            for node in ast.walk(ast.parse(path.read_text(encoding="utf-8"))):
                self.assertNotIsInstance(node, ast.Import, path)
                if isinstance(node, ast.ImportFrom):
                    self.assertIn(node.module.split(".")[0], IMPORTED, path)

    def test_only_the_builtins_of_the_subset_are_called(self):
        for path in self.files():
            for node in ast.walk(ast.parse(path.read_text(encoding="utf-8"))):
                if isinstance(node, ast.Name) and node.id in dir(builtins):
                    self.assertIn(node.id, BUILTINS, path)

    def test_no_float_no_division_and_no_power(self):
        for path in self.files():
            for node in ast.walk(ast.parse(path.read_text(encoding="utf-8"))):
                self.assertNotIsInstance(node, (ast.Div, ast.Pow, ast.Global, ast.AsyncFor), path)
                if isinstance(node, ast.Constant):
                    self.assertNotIsInstance(node.value, (float, complex), path)
                    self.assertNotIn("%", str(node.value), path)

    def test_nothing_is_kept_beside_plain_values(self):
        for module in (bases, cutting, errors, texts, trees, whole):
            for name, held in vars(module).items():
                if not name.startswith("__"):
                    plain = isinstance(held, int) or inspect.isfunction(held) or inspect.isclass(held)
                    self.assertTrue(plain, name)


if __name__ == "__main__":
    unittest.main()
