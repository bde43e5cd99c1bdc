"""The package keeps to the language rules that a look at its files can tell."""

import ast
import re
import unittest
from pathlib import Path

PACKAGE = Path(__file__).resolve().parent.parent / "costpapers"
LIBRARY = {
    "heapq": {"heappush", "heappop", "heapify", "heapreplace", "heappushpop"},
    "math": {"gcd", "lcm", "isqrt", "comb", "perm", "factorial"},
    "itertools": {"product", "combinations", "permutations"},
}
BUILTINS = set("""
    len range enumerate zip min max sum abs sorted reversed int str bool list tuple dict set frozenset isinstance ord
    repr any all divmod iter next property staticmethod classmethod super Exception ValueError TypeError KeyError
    IndexError LookupError ZeroDivisionError ArithmeticError OverflowError RuntimeError NotImplementedError
    AttributeError StopIteration NotImplemented
""".split())
BARRED = set("""
    type typing enum register mro elements open input law version_info with_traceback add_note global async chr eval
    exec getattr setattr hasattr globals locals vars dir id compile float bytearray memoryview
""".split())


def sources():
    for path in sorted(PACKAGE.rglob("*.py")):
        text = path.read_text(encoding="utf-8")
        yield path.name, text, ast.parse(text)


def bound_names(tree):
    """All names that a file binds anywhere."""
    for node in ast.walk(tree):
        if isinstance(node, (ast.FunctionDef, ast.ClassDef)):
            yield node.name
        elif isinstance(node, ast.arg):
            yield node.arg
        elif isinstance(node, ast.alias):
            yield node.name
        elif isinstance(node, ast.Name) and isinstance(node.ctx, ast.Store):
            yield node.id


class LanguageTest(unittest.TestCase):
    def test_files(self):
        for path in PACKAGE.rglob("*"):
            if path.name != "__pycache__" and path.parent.name != "__pycache__":
                self.assertRegex(path.name, r"^[a-z][a-z0-9_]*\.py$|^__init__\.py$")

    def test_lines_and_signs(self):
        for name, text, _ in sources():
            self.assertLessEqual(len(text.splitlines()), 399, name)
            self.assertRegex(text, r"\A[\n -~]*\Z", name)
            for line in text.splitlines():
                self.assertLessEqual(len(line), 120, f"{name}: {line}")

    def test_functions_are_short(self):
        for name, _, tree in sources():
            for node in ast.walk(tree):
                if isinstance(node, ast.FunctionDef):
                    self.assertLessEqual(node.end_lineno - node.lineno + 1, 40, f"{name}: {node.name}")
                    self.assertIsNotNone(ast.get_docstring(node) or node.name == "__init__" or None, node.name)

    def test_module_level(self):
        for name, _, tree in sources():
            self.assertIsNotNone(ast.get_docstring(tree), name)
            bound = []
            for node in tree.body[1:]:
                allowed = (ast.ImportFrom, ast.FunctionDef, ast.ClassDef, ast.Assign)
                self.assertIsInstance(node, allowed, f"{name}:{node.lineno}")
                if isinstance(node, ast.ImportFrom):
                    self.imports_as_allowed(name, node)
                    bound += [alias.name for alias in node.names]
                elif isinstance(node, ast.Assign):
                    bound += [target.id for target in node.targets]
                else:
                    bound.append(node.name)
            self.assertEqual(len(bound), len(set(bound)), name)

    def imports_as_allowed(self, name, node):
        self.assertEqual(node.level, 0, name)
        for alias in node.names:
            self.assertIsNone(alias.asname, name)
            if not node.module.startswith("costpapers."):
                self.assertIn(alias.name, LIBRARY[node.module], name)

    def test_names(self):
        for name, text, tree in sources():
            for bound in bound_names(tree):
                self.assertNotIn(bound, BUILTINS | BARRED, name)
                self.assertRegex(bound, r"^_?[A-Za-z][A-Za-z0-9_]*$|^_$|^__init__$", name)
            strings = [node.value for node in ast.walk(tree) if isinstance(node, ast.Constant)]
            self.assertFalse([value for value in strings if isinstance(value, str) and "%" in value], name)
            self.assertFalse(re.findall(r"_wall|_WallAttr", text), name)

    def test_only_known_names_are_read(self):
        for name, _, tree in sources():
            known = BUILTINS | set(bound_names(tree))
            for node in ast.walk(tree):
                if isinstance(node, ast.Name) and isinstance(node.ctx, ast.Load):
                    self.assertIn(node.id, known, f"{name}:{node.lineno}")

    def test_statements_and_values(self):
        barred = (ast.Global, ast.AsyncFunctionDef, ast.Await, ast.Div, ast.Import)
        for name, _, tree in sources():
            for node in ast.walk(tree):
                self.assertNotIsInstance(node, barred, f"{name}:{getattr(node, 'lineno', 0)}")
                self.assertNotIsInstance(getattr(node, "value", None), (float, complex), name)
            for node in tree.body:
                self.assertEqual(getattr(node, "decorator_list", []), [], name)
