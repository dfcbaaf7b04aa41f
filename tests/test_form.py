"""Plain rules of form for the files of the package: sizes, characters, imports and names."""

import ast
import builtins
import pathlib
import unittest

FOLDER = pathlib.Path(__file__).resolve().parent.parent / "heldbest"
LIBRARY = {"heapq", "math", "itertools", "collections", "__future__"}


def files():
    return sorted(FOLDER.glob("**/*.py"))


def assigned_names(tree):
    """The names of parameters, variables, functions and classes, but not those of methods."""
    methods = {id(part) for node in ast.walk(tree) if isinstance(node, ast.ClassDef) for part in node.body}
    for node in ast.walk(tree):
        if isinstance(node, ast.arg):
            yield node.arg
        elif isinstance(node, ast.Name) and not isinstance(node.ctx, ast.Load):
            yield node.id
        elif isinstance(node, (ast.FunctionDef, ast.ClassDef)) and id(node) not in methods:
            yield node.name


class FormTest(unittest.TestCase):
    def test_sizes_and_characters(self):
        for path in files():
            with self.subTest(path.name):
                lines = path.read_text(encoding="utf-8").split("\n")
                self.assertLessEqual(len(lines), 400)
                for line in lines:
                    self.assertLessEqual(len(line), 120)
                    self.assertTrue(all(" " <= character <= "~" for character in line), line)

    def test_functions_are_small(self):
        for path in files():
            for node in ast.walk(ast.parse(path.read_text(encoding="utf-8"))):
                if isinstance(node, ast.FunctionDef):
                    with self.subTest(f"{path.name}:{node.lineno}"):
                        self.assertLessEqual(node.end_lineno - node.lineno + 1, 40)

    def test_imports(self):
        for path in files():
            for node in ast.walk(ast.parse(path.read_text(encoding="utf-8"))):
                with self.subTest(f"{path.name}:{getattr(node, 'lineno', 0)}"):
                    self.assertNotIsInstance(node, ast.Import)
                    if isinstance(node, ast.ImportFrom):
                        self.assertEqual(node.level, 0)
                        self.assertIn(node.module.split(".")[0], {"heldbest", *LIBRARY})
                        self.assertTrue(all(alias.asname is None for alias in node.names))

    def test_names(self):
        for path in files():
            tree = ast.parse(path.read_text(encoding="utf-8"))
            imported = {
                alias.name for node in ast.walk(tree) if isinstance(node, ast.ImportFrom) for alias in node.names
            }
            for name in assigned_names(tree):
                with self.subTest(f"{path.name}: {name}"):
                    self.assertFalse(hasattr(builtins, name))
                    self.assertNotIn(name, imported)
