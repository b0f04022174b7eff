"""The form of the package's files, as far as a short test can see it."""

import ast
import builtins
import unittest
from pathlib import Path

PACKAGE = Path(__file__).resolve().parent.parent / "cutbehind"
LIBRARY = {"heapq", "math", "itertools", "collections"}
CAUGHT_NOT = {"Exception", "TypeError", "ArithmeticError", "OverflowError", "RuntimeError", "AttributeError"}
CHANGING = {
    "append", "clear", "extend", "insert", "pop", "remove", "reverse", "setdefault", "sort", "update", "add", "discard",
}
BARRED = (ast.AsyncFunctionDef, ast.Await, ast.AsyncFor, ast.AsyncWith, ast.Div, ast.Import)


def files():
    return sorted(path for path in PACKAGE.rglob("*") if path.is_file() and "__pycache__" not in path.parts)


def trees():
    return [(path.name, ast.parse(path.read_text())) for path in files()]


def functions():
    """The functions and methods, each with the name of its file."""
    return [(name, node) for name, tree in trees() for node in ast.walk(tree) if isinstance(node, ast.FunctionDef)]


def places_in(expression):
    """The names and attributes in an expression, as they are written."""
    return {ast.unparse(node) for node in ast.walk(expression) if isinstance(node, (ast.Name, ast.Attribute))}


def other_names(function):
    """For each name and attribute of a function those that are, or may be, the same value."""
    found = {}
    for node in ast.walk(function):
        if isinstance(node, ast.Assign):
            pairs = [(target, node.value) for target in node.targets]
            if isinstance(node.targets[0], ast.Tuple) and isinstance(node.value, ast.Tuple):
                pairs = list(zip(node.targets[0].elts, node.value.elts))
            for target, value in pairs:
                if isinstance(value, (ast.Name, ast.Attribute, ast.IfExp, ast.BoolOp)):
                    for place in places_in(value):
                        found.setdefault(ast.unparse(target), set()).add(place)
                        found.setdefault(place, set()).add(ast.unparse(target))
    return found


def changed_in(statement):
    """The names and attributes that a statement assigns, or whose items it changes."""
    found = set()
    for node in ast.walk(statement):
        if isinstance(node, ast.Call) and isinstance(node.func, ast.Attribute) and node.func.attr in CHANGING:
            found.add(ast.unparse(node.func.value))
        if isinstance(node, (ast.Name, ast.Attribute, ast.Subscript)) and isinstance(node.ctx, (ast.Store, ast.Del)):
            found.add(ast.unparse(node.value if isinstance(node, ast.Subscript) else node))
    return found


class Form(unittest.TestCase):
    def test_files_and_folders(self):
        self.assertTrue(files())
        for path in files():
            self.assertRegex(path.name, r"\A[a-z0-9_]+\.py\Z")
            self.assertTrue((path.parent / "__init__.py").is_file(), path)

    def test_sizes_and_characters(self):
        for path in files():
            text = path.read_bytes().decode("ascii")
            self.assertLessEqual(len(text.splitlines()), 399, path)
            for line in text.split("\n"):
                self.assertLessEqual(len(line), 120, path)
                self.assertTrue(all(" " <= sign <= "~" for sign in line), line)

    def test_functions_are_short(self):
        for name, tree in trees():
            for node in ast.walk(tree):
                if isinstance(node, ast.FunctionDef):
                    self.assertLessEqual(node.end_lineno - node.lineno + 1, 40, (name, node.name))

    def test_imports(self):
        for name, tree in trees():
            for node in ast.walk(tree):
                if isinstance(node, ast.ImportFrom):
                    self.assertEqual(node.level, 0)
                    self.assertTrue(node.module in LIBRARY or node.module.startswith("cutbehind."), node.module)

    def test_statements_and_values(self):
        for name, tree in trees():
            for node in ast.walk(tree):
                self.assertNotIsInstance(node, BARRED, name)
                if isinstance(node, ast.Constant):
                    self.assertNotIsInstance(node.value, float, name)
                if isinstance(node, ast.ExceptHandler):
                    self.assertIsNotNone(node.type, name)
                    self.assertNotIn(getattr(node.type, "id", ""), CAUGHT_NOT, name)

    def test_module_level(self):
        allowed = (ast.FunctionDef, ast.ClassDef, ast.ImportFrom, ast.Assign)
        for name, tree in trees():
            for place, node in enumerate(tree.body):
                if place == 0 and isinstance(node, ast.Expr):
                    self.assertIsInstance(node.value, ast.Constant, name)
                else:
                    self.assertIsInstance(node, allowed, name)

    def test_names(self):
        for name, tree in trees():
            imported = {alias.name for node in tree.body if isinstance(node, ast.ImportFrom) for alias in node.names}
            classes = {node.name for node in tree.body if isinstance(node, ast.ClassDef)}
            for function in ast.walk(tree):
                if isinstance(function, ast.FunctionDef):
                    nodes = list(ast.walk(function))
                    bound = {node.arg for node in nodes if isinstance(node, ast.arg)}
                    stored = [node for node in nodes if isinstance(getattr(node, "ctx", None), ast.Store)]
                    bound |= {node.id for node in stored if isinstance(node, ast.Name)}
                    self.assertFalse(bound & (imported | classes | set(dir(builtins))), (name, function.name))

    def test_lists_in_place_of_generator_expressions(self):
        for name, tree in trees():
            for node in ast.walk(tree):
                self.assertNotIsInstance(node, ast.GeneratorExp, name)

    def test_methods_and_attributes_have_names_of_their_own(self):
        nodes = [node for _, tree in trees() for node in ast.walk(tree)]
        classes = [node for node in nodes if isinstance(node, ast.ClassDef)]
        methods = {part.name for node in classes for part in node.body if isinstance(part, ast.FunctionDef)}
        stored = {node.attr for node in nodes if isinstance(node, ast.Attribute) and isinstance(node.ctx, ast.Store)}
        self.assertFalse(methods & stored)
        for name in sorted(stored | {name for name in methods if not name.startswith("__")}):
            self.assertFalse(any(hasattr(kind, name) for kind in (int, str, list, dict, set, bytes)), name)

    def test_loops_do_not_change_what_they_walk(self):
        for name, function in functions():
            others = other_names(function)
            for loop in ast.walk(function):
                if isinstance(loop, ast.For):
                    walked, further = set(), places_in(loop.iter)
                    while further:
                        walked |= further
                        further = {place for known in walked for place in others.get(known, ())} - walked
                    for statement in loop.body:
                        self.assertFalse(walked & changed_in(statement), (name, function.name, loop.lineno))

    def test_handlers_have_names_of_their_own(self):
        for name, function in functions():
            handlers = [node.name for node in ast.walk(function) if isinstance(node, ast.ExceptHandler) and node.name]
            self.assertEqual(len(handlers), len(set(handlers)), (name, function.name))

    def test_what_is_not_used_beside_items_and_operators(self):
        for name, tree in trees():
            for node in ast.walk(tree):
                self.assertNotIsInstance(node, ast.AugAssign, name)
                if isinstance(node, ast.Call):
                    self.assertNotEqual(getattr(node.func, "id", ""), "reversed", name)
                    starred = [part.value for part in node.args if isinstance(part, ast.Starred)]
                    self.assertTrue(all(isinstance(part, (ast.Name, ast.Attribute)) for part in starred), name)

    def test_imports_name_the_file_that_defines(self):
        modules = {".".join(path.relative_to(PACKAGE.parent).with_suffix("").parts): ast.parse(path.read_text())
                   for path in files()}
        imports = {}
        for module, tree in modules.items():
            for node in tree.body:
                if isinstance(node, ast.ImportFrom) and node.module in modules:
                    imports.setdefault(module, set()).add(node.module)
                    for alias in node.names:
                        body = modules[node.module].body
                        defined = {getattr(part, "name", None) for part in body}
                        defined |= {part.targets[0].id for part in body if isinstance(part, ast.Assign)}
                        self.assertIn(alias.name, defined, (module, node.module))
        for module in imports:
            reached, further = set(), imports[module]
            while further:
                reached |= further
                further = {other for known in reached for other in imports.get(known, ())} - reached
            self.assertNotIn(module, reached)

    def test_nothing_is_imported_in_vain(self):
        for path in files():
            tree = ast.parse(path.read_text())
            used = {node.id for node in ast.walk(tree) if isinstance(node, ast.Name)}
            imported = {alias.name for node in tree.body if isinstance(node, ast.ImportFrom) for alias in node.names}
            # The constants that the document lists for books are defined beside is_text.
            kept = {"MAX_LENGTH"} if path.name == "books.py" else set()
            self.assertEqual(imported - used - kept, set(), path)
