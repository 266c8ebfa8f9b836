"""What can be counted of the rules for the code: files, imports, sizes, signs, decorators."""

import ast
import os
import unittest

PACKAGE = os.path.join(os.path.dirname(os.path.dirname(os.path.abspath(__file__))), "onemember")


def sources():
    """The names and the texts of the files of the package."""
    found = []
    for name in sorted(os.listdir(PACKAGE)):
        if name != "__pycache__":
            with open(os.path.join(PACKAGE, name), encoding="utf-8") as file:
                found.append((name, file.read()))
    return found


class LanguageTest(unittest.TestCase):

    def test_files(self):
        for name, text in sources():
            self.assertRegex(name, r"^([a-z][a-z0-9_]*|__init__)\.py$")
            self.assertLessEqual(len(text.splitlines()), 399, name)
            self.assertTrue(text.endswith("\n") and not text.endswith("\n\n"), name)
            for line in text.splitlines():
                self.assertLessEqual(len(line), 120, (name, line))
                self.assertTrue(all(" " <= sign <= "~" for sign in line), (name, line))
                self.assertEqual(line, line.rstrip(), (name, line))

    def test_functions_are_small(self):
        for name, tree in self.trees():
            for node in ast.walk(tree):
                if isinstance(node, ast.FunctionDef):
                    self.assertLessEqual(node.end_lineno - node.lineno + 1, 40, (name, node.name))

    def test_imports_are_those_of_the_package(self):
        defined = {name[:-3]: [node.name for node in tree.body if isinstance(node, (ast.FunctionDef, ast.ClassDef))]
                   + [node.targets[0].id for node in tree.body if isinstance(node, ast.Assign)]
                   for name, tree in self.trees()}
        for name, tree in self.trees():
            for node in ast.walk(tree):
                self.assertNotIsInstance(node, ast.Import, name)
                if isinstance(node, ast.ImportFrom):
                    package, file = node.module.split(".")
                    self.assertEqual((package, node.level), ("onemember", 0))
                    for alias in node.names:
                        self.assertIn(alias.name, defined[file])
                        self.assertIsNone(alias.asname)

    def test_no_barred_statements(self):
        barred = (ast.Global, ast.AsyncFunctionDef, ast.Await, ast.Div)
        for name, tree in self.trees():
            for node in ast.walk(tree):
                self.assertNotIsInstance(node, barred, (name, getattr(node, "lineno", 0)))
                if isinstance(node, ast.Constant):
                    self.assertNotIsInstance(node.value, float)
                    self.assertNotIn("%", str(node.value))
                if isinstance(node, (ast.FunctionDef, ast.ClassDef)):
                    for mark in node.decorator_list:
                        self.assertRegex(ast.unparse(mark), r"^(property|staticmethod|classmethod|[a-z_]+\.setter)$")

    def trees(self):
        return [(name, ast.parse(text)) for name, text in sources()]
