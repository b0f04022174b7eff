"""The form of the package's files, as far as a short test can see it."""

import ast
import builtins
import unittest
from pathlib import Path

PACKAGE = Path(__file__).resolve().parent.parent / "cutbehind"
LIBRARY = {"heapq", "math", "itertools", "collections"}
CAUGHT_NOT = {"Exception", "TypeError", "ArithmeticError", "OverflowError", "RuntimeError", "AttributeError"}
BARRED = (ast.AsyncFunctionDef, ast.Await, ast.AsyncFor, ast.AsyncWith, ast.Div, ast.Import)


def files():
    return sorted(path for path in PACKAGE.rglob("*") if path.is_file() and "__pycache__" not in path.parts)


def trees():
    return [(path.name, ast.parse(path.read_text())) for path in files()]


class Form(unittest.TestCase):
    def test_files_and_folders(self):
        self.assertTrue(files())
        for path in files():
            self.assertRegex(path.name, r"\A[a-z0-9_]+\.py\Z")
            self.assertTrue((path.parent / "__init__.py").is_file(), path)

    def test_sizes_and_characters(self):
        for path in files():
            text = path.read_bytes().decode("ascii")
            self.assertLessEqual(len(text.splitlines()), 399, path)
            for line in text.split("\n"):
                self.assertLessEqual(len(line), 120, path)
                self.assertTrue(all(" " <= sign <= "~" for sign in line), line)

    def test_functions_are_short(self):
        for name, tree in trees():
            for node in ast.walk(tree):
                if isinstance(node, ast.FunctionDef):
                    self.assertLessEqual(node.end_lineno - node.lineno + 1, 40, (name, node.name))

    def test_imports(self):
        for name, tree in trees():
            for node in ast.walk(tree):
                if isinstance(node, ast.ImportFrom):
                    self.assertEqual(node.level, 0)
                    self.assertTrue(node.module in LIBRARY or node.module.startswith("cutbehind."), node.module)

    def test_statements_and_values(self):
        for name, tree in trees():
            for node in ast.walk(tree):
                self.assertNotIsInstance(node, BARRED, name)
                if isinstance(node, ast.Constant):
                    self.assertNotIsInstance(node.value, float, name)
                if isinstance(node, ast.ExceptHandler):
                    self.assertIsNotNone(node.type, name)
                    self.assertNotIn(getattr(node.type, "id", ""), CAUGHT_NOT, name)

    def test_module_level(self):
        allowed = (ast.FunctionDef, ast.ClassDef, ast.ImportFrom, ast.Assign)
        for name, tree in trees():
            for place, node in enumerate(tree.body):
                if place == 0 and isinstance(node, ast.Expr):
                    self.assertIsInstance(node.value, ast.Constant, name)
                else:
                    self.assertIsInstance(node, allowed, name)

    def test_names(self):
        for name, tree in trees():
            imported = {alias.name for node in tree.body if isinstance(node, ast.ImportFrom) for alias in node.names}
            classes = {node.name for node in tree.body if isinstance(node, ast.ClassDef)}
            for function in ast.walk(tree):
                if isinstance(function, ast.FunctionDef):
                    nodes = list(ast.walk(function))
                    bound = {node.arg for node in nodes if isinstance(node, ast.arg)}
                    stored = [node for node in nodes if isinstance(getattr(node, "ctx", None), ast.Store)]
                    bound |= {node.id for node in stored if isinstance(node, ast.Name)}
                    self.assertFalse(bound & (imported | classes | set(dir(builtins))), (name, function.name))

    def test_lists_in_place_of_generator_expressions(self):
        for name, tree in trees():
            for node in ast.walk(tree):
                self.assertNotIsInstance(node, ast.GeneratorExp, name)

    def test_methods_and_attributes_have_names_of_their_own(self):
        nodes = [node for _, tree in trees() for node in ast.walk(tree)]
        classes = [node for node in nodes if isinstance(node, ast.ClassDef)]
        methods = {part.name for node in classes for part in node.body if isinstance(part, ast.FunctionDef)}
        stored = {node.attr for node in nodes if isinstance(node, ast.Attribute) and isinstance(node.ctx, ast.Store)}
        self.assertFalse(methods & stored)
        for name in sorted(stored | {name for name in methods if not name.startswith("__")}):
            self.assertFalse(any(hasattr(kind, name) for kind in (int, str, list, dict, set, bytes)), name)
