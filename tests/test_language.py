"""The package keeps to the language rules that a look at its files can tell."""

import ast
import builtins
import re
import unittest
from pathlib import Path

PACKAGE = Path(__file__).resolve().parent.parent / "costpapers"
LIBRARY = {
    "heapq": {"heappush", "heappop", "heapify", "heapreplace", "heappushpop"},
    "math": {"gcd", "lcm", "isqrt", "comb", "perm", "factorial"},
    "itertools": {"product", "combinations", "permutations"},
}
BUILTINS = set("""
    len range enumerate zip min max sum abs sorted reversed int str bool list tuple dict set frozenset isinstance ord
    repr any all divmod iter next property staticmethod classmethod super Exception ValueError TypeError KeyError
    IndexError LookupError ZeroDivisionError ArithmeticError OverflowError RuntimeError NotImplementedError
    AttributeError StopIteration NotImplemented
""".split())
BARRED = set("""
    type typing enum register mro elements open input law version_info with_traceback add_note global async chr eval
    exec getattr setattr hasattr globals locals vars dir id compile float bytearray memoryview
""".split())


METHODS = set("""
    append clear copy count endswith extend find get index insert isalnum isalpha isdigit islower isspace isupper items
    join keys ljust lower lstrip partition pop remove replace reverse rfind rjust rpartition rsplit rstrip setdefault
    split splitlines startswith strip update upper values zfill bit_length
""".split())
TAKES_AT_ONCE = {"list", "tuple", "dict", "sorted", "sum", "any", "all", "enumerate", "zip", "min", "max"}
LAZY = {"zip", "enumerate", "reversed", "range", "map", "product", "combinations", "permutations"}
COMPREHENSIONS = (ast.ListComp, ast.DictComp, ast.SetComp, ast.GeneratorExp)


def sources():
    for path in sorted(PACKAGE.rglob("*.py")):
        text = path.read_text(encoding="utf-8")
        yield path.name, text, ast.parse(text)


def bound_names(tree):
    """All names that a file binds anywhere."""
    for node in ast.walk(tree):
        if isinstance(node, (ast.FunctionDef, ast.ClassDef)):
            yield node.name
        elif isinstance(node, ast.arg):
            yield node.arg
        elif isinstance(node, ast.alias):
            yield node.name
        elif isinstance(node, ast.Name) and isinstance(node.ctx, ast.Store):
            yield node.id


class LanguageTest(unittest.TestCase):
    def test_files(self):
        for path in PACKAGE.rglob("*"):
            if path.name != "__pycache__" and path.parent.name != "__pycache__":
                self.assertRegex(path.name, r"^[a-z][a-z0-9_]*\.py$|^__init__\.py$")

    def test_lines_and_signs(self):
        for name, text, _ in sources():
            self.assertLessEqual(len(text.splitlines()), 399, name)
            self.assertRegex(text, r"\A[\n -~]*\Z", name)
            for line in text.splitlines():
                self.assertLessEqual(len(line), 120, f"{name}: {line}")

    def test_functions_are_short(self):
        for name, _, tree in sources():
            for node in ast.walk(tree):
                if isinstance(node, ast.FunctionDef):
                    self.assertLessEqual(node.end_lineno - node.lineno + 1, 40, f"{name}: {node.name}")
                    self.assertIsNotNone(ast.get_docstring(node) or node.name == "__init__" or None, node.name)

    def test_module_level(self):
        for name, _, tree in sources():
            self.assertIsNotNone(ast.get_docstring(tree), name)
            bound = []
            for node in tree.body[1:]:
                allowed = (ast.ImportFrom, ast.FunctionDef, ast.ClassDef, ast.Assign)
                self.assertIsInstance(node, allowed, f"{name}:{node.lineno}")
                if isinstance(node, ast.ImportFrom):
                    self.imports_as_allowed(name, node)
                    bound += [alias.name for alias in node.names]
                elif isinstance(node, ast.Assign):
                    bound += [target.id for target in node.targets]
                else:
                    bound.append(node.name)
            self.assertEqual(len(bound), len(set(bound)), name)

    def imports_as_allowed(self, name, node):
        self.assertEqual(node.level, 0, name)
        for alias in node.names:
            self.assertIsNone(alias.asname, name)
            if not node.module.startswith("costpapers."):
                self.assertIn(alias.name, LIBRARY[node.module], name)

    def test_names(self):
        for name, text, tree in sources():
            for bound in bound_names(tree):
                self.assertNotIn(bound, BUILTINS | BARRED, name)
                self.assertRegex(bound, r"^_?[A-Za-z][A-Za-z0-9_]*$|^_$|^__init__$", name)
            strings = [node.value for node in ast.walk(tree) if isinstance(node, ast.Constant)]
            self.assertFalse([value for value in strings if isinstance(value, str) and "%" in value], name)
            self.assertFalse(re.findall(r"_wall|_WallAttr", text), name)

    def test_only_known_names_are_read(self):
        for name, _, tree in sources():
            known = BUILTINS | set(bound_names(tree))
            for node in ast.walk(tree):
                if isinstance(node, ast.Name) and isinstance(node.ctx, ast.Load):
                    self.assertIn(node.id, known, f"{name}:{node.lineno}")

    def test_statements_and_values(self):
        barred = (ast.Global, ast.AsyncFunctionDef, ast.Await, ast.Div, ast.Import)
        for name, _, tree in sources():
            for node in ast.walk(tree):
                self.assertNotIsInstance(node, barred, f"{name}:{getattr(node, 'lineno', 0)}")
                self.assertNotIsInstance(getattr(node, "value", None), (float, complex), name)
            for node in tree.body:
                self.assertEqual(getattr(node, "decorator_list", []), [], name)

    def test_names_mean_one_thing(self):
        for name, _, tree in sources():
            fixed = set(dir(builtins))
            for node in ast.walk(tree):
                if isinstance(node, ast.ImportFrom):
                    fixed |= {alias.name for alias in node.names}
                elif isinstance(node, ast.ClassDef):
                    fixed.add(node.name)
            for node in ast.walk(tree):
                if isinstance(node, ast.Name) and isinstance(node.ctx, (ast.Store, ast.Del)):
                    self.assertNotIn(node.id, fixed, f"{name}:{node.lineno}")
                elif isinstance(node, ast.arg):
                    self.assertNotIn(node.arg, fixed, f"{name}:{node.lineno}")
                elif isinstance(node, ast.FunctionDef):
                    self.assertNotIn(node.name, fixed, f"{name}:{node.lineno}")

    def test_imports_go_one_way(self):
        imports, defined = {}, {}
        for name, _, tree in sources():
            module = "costpapers." + name.removesuffix(".py")
            defined[module] = {node.name for node in tree.body if isinstance(node, (ast.FunctionDef, ast.ClassDef))}
            defined[module] |= {node.targets[0].id for node in tree.body if isinstance(node, ast.Assign)}
            told = [node for node in tree.body if isinstance(node, ast.ImportFrom) and node.module.startswith("costpapers.")]
            imports[module] = {(node.module, alias.name) for node in told for alias in node.names}
            read = {node.id for node in ast.walk(tree) if isinstance(node, ast.Name)}
            for node in tree.body:
                if isinstance(node, ast.ImportFrom):
                    self.assertLessEqual({alias.name for alias in node.names}, read, f"{module} imports in vain")
        for module, told in imports.items():
            for source, imported in told:
                self.assertIn(imported, defined[source], module)
        left = {module: {source for source, _ in told} for module, told in imports.items()}
        while left:
            free = {module for module, told in left.items() if not told & set(left)}
            self.assertTrue(free, f"a ring of imports among {sorted(left)}")
            left = {module: told for module, told in left.items() if module not in free}

    def test_calls(self):
        own = {node.name for _, _, tree in sources() for part in ast.walk(tree) if isinstance(part, ast.ClassDef)
               for node in part.body if isinstance(node, ast.FunctionDef) and not node.decorator_list}
        self.assertFalse(own & set(METHODS))
        for name, _, tree in sources():
            for node in ast.walk(tree):
                if not isinstance(node, ast.Call):
                    continue
                place = f"{name}:{node.lineno}"
                if isinstance(node.func, ast.Attribute):
                    self.assertIn(node.func.attr, METHODS | own, place)
                if any(isinstance(arg, ast.Starred) for arg in node.args):
                    self.assertIn(node.func.id, ("max", "min", "zip"), place)
                for arg in node.args:
                    if isinstance(arg, ast.GeneratorExp):
                        self.fail(f"{place}: a list is taken instead")

    def test_properties_change_nothing(self):
        for name, _, tree in sources():
            for node in ast.walk(tree):
                if isinstance(node, ast.FunctionDef) and node.decorator_list:
                    self.assertEqual([ast.unparse(told) for told in node.decorator_list], ["property"], name)
                    self.assertNotIn(node.name, METHODS, name)
                    for part in ast.walk(node):
                        if isinstance(part, ast.Attribute):
                            self.assertIsInstance(part.ctx, ast.Load, f"{name}: {node.name}")
                        if isinstance(part, ast.Call):
                            self.assertIsInstance(part.func, ast.Name, f"{name}: {node.name}")

    def test_iterated_at_once(self):
        for name, _, tree in sources():
            allowed = set()
            for node in ast.walk(tree):
                if isinstance(node, (ast.For, ast.comprehension)):
                    allowed.add(id(node.iter))
                elif isinstance(node, ast.Call) and isinstance(node.func, ast.Name) and node.func.id in TAKES_AT_ONCE:
                    allowed |= {id(arg) for arg in node.args}
                elif isinstance(node, ast.Call) and ast.unparse(node).startswith("reversed(range("):
                    allowed.add(id(node.args[0]))
            for node in ast.walk(tree):
                if isinstance(node, ast.Call) and isinstance(node.func, ast.Name):
                    if node.func.id in LAZY:
                        self.assertIn(id(node), allowed, f"{name}:{node.lineno}")
                self.assertNotIsInstance(node, (ast.Yield, ast.YieldFrom, ast.NamedExpr, ast.Set, ast.SetComp), name)

    def test_comprehensions_have_names_of_their_own(self):
        for name, _, tree in sources():
            for node in ast.walk(tree):
                if isinstance(node, COMPREHENSIONS):
                    outer = self.targets(node)
                    for part in ast.walk(node):
                        if isinstance(part, COMPREHENSIONS) and part is not node:
                            self.assertFalse(outer & self.targets(part), f"{name}:{node.lineno}")

    def targets(self, node):
        return {part.id for loop in node.generators for part in ast.walk(loop.target) if isinstance(part, ast.Name)}
