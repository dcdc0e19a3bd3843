"""The names, arguments and places that the interface lists, and the sizes the language allows."""

import ast
import inspect
import pathlib
import unittest

from headsgrow import trees

PACKAGE = pathlib.Path(__file__).resolve().parent.parent / "headsgrow"
ARGUMENTS = {
    "told": ["tree"],
    "compare": ["one", "other"],
    "together": ["one", "other"],
    "behind": ["one", "other"],
}
IMPORTED = ("headsgrow", "collections", "heapq", "itertools", "math", "__future__")


class Interface(unittest.TestCase):
    def test_functions_are_defined_where_they_are_listed(self):
        for name, arguments in ARGUMENTS.items():
            function = getattr(trees, name)
            self.assertEqual(function.__module__, "headsgrow.trees")
            self.assertEqual(function.__name__, name)
            self.assertEqual(list(inspect.signature(function).parameters), arguments)


class Form(unittest.TestCase):
    def files(self):
        return sorted(PACKAGE.rglob("*.py"))

    def test_the_folder_holds_nothing_else(self):
        others = [
            path.name for path in PACKAGE.rglob("*")
            if path.is_file() and path.suffix != ".py" and path.parent.name != "__pycache__"
        ]
        self.assertEqual(others, [])
        self.assertTrue((PACKAGE / "__init__.py").is_file())

    def test_rows_and_characters(self):
        for path in self.files():
            text = path.read_text(encoding="utf-8")
            self.assertTrue(all(sign == "\n" or " " <= sign <= "~" for sign in text), path)
            self.assertLessEqual(len(text.splitlines()), 399, path)
            self.assertTrue(all(len(row) <= 120 for row in text.splitlines()), path)

    def test_functions_are_small(self):
        for path in self.files():
            for node in ast.walk(ast.parse(path.read_text(encoding="utf-8"))):
                if isinstance(node, ast.FunctionDef):
                    self.assertLess(node.end_lineno - node.lineno, 40, (path, node.name))

    def test_no_outside_package(self):
        for path in self.files():
            for node in ast.walk(ast.parse(path.read_text(encoding="utf-8"))):
                self.assertNotIsInstance(node, ast.Import, path)
                if isinstance(node, ast.ImportFrom):
                    self.assertIn(node.module.split(".")[0], IMPORTED, path)


if __name__ == "__main__":
    unittest.main()
