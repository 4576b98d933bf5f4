"""The rules of LANGUAGE.md that a short look at the files can tell.

They are L1, L2, L3, L4, L7, L8, L10, L14, L15, L16, L25 and L27.
"""

import ast
import builtins
import pathlib
import re
import unittest

PACKAGE = pathlib.Path(__file__).resolve().parent.parent / "branchorders"

LIBRARY = {
    "heapq": "heappush heappop heapify heapreplace heappushpop",
    "math": "gcd lcm isqrt comb perm factorial",
    "itertools": "product combinations permutations chain accumulate pairwise islice zip_longest",
    "collections": "defaultdict deque",
}

BUILTINS = set("""
    len range enumerate zip min max sum abs sorted reversed int str bool bytes list tuple dict set frozenset isinstance
    ord repr any all divmod pow getattr hasattr setattr iter next map type super property staticmethod classmethod
    Exception ValueError TypeError KeyError IndexError LookupError ZeroDivisionError ArithmeticError OverflowError
    RuntimeError NotImplementedError AttributeError StopIteration NotImplemented
""".split())

METHODS = set("""
    append clear copy count endswith extend find get index insert isalnum isalpha isdigit islower isspace isupper items
    join keys ljust lower lstrip partition pop remove replace reverse rfind rjust rpartition rsplit rstrip setdefault
    split splitlines startswith strip update upper values zfill bit_length title capitalize swapcase casefold center
    expandtabs removeprefix removesuffix rindex isascii isdecimal isnumeric istitle isidentifier isprintable sort add
    discard appendleft popleft extendleft rotate from_iterable __init__
""".split())


def files():
    return sorted(path for path in PACKAGE.rglob("*") if "__pycache__" not in path.parts and path.is_file())


def trees():
    return [(path.name, ast.parse(path.read_text(encoding="utf-8"))) for path in files()]


def is_docstring(node):
    return isinstance(node, ast.Expr) and isinstance(node.value, ast.Constant) and isinstance(node.value.value, str)


def imported(tree):
    """The names that a file imports, each with the module that it comes from."""
    return {alias.name: node.module for node in tree.body if isinstance(node, ast.ImportFrom) for alias in node.names}


def names_defined(tree):
    """The names that a file binds itself at module level."""
    found = {node.name for node in tree.body if isinstance(node, (ast.FunctionDef, ast.ClassDef))}
    return found | {node.targets[0].id for node in tree.body if isinstance(node, ast.Assign)}


class LanguageTest(unittest.TestCase):

    def test_files(self):
        self.assertTrue((PACKAGE / "__init__.py").is_file())
        for path in files():
            self.assertRegex(path.name, r"\A[a-z_][a-z0-9_]*\.py\Z")

    def test_sizes_and_characters(self):
        for path in files():
            text = path.read_text(encoding="utf-8")
            self.assertTrue(all(character == "\n" or " " <= character <= "~" for character in text), path.name)
            lines = text.split("\n")
            self.assertLessEqual(len(lines) - 1, 399, path.name)
            self.assertLessEqual(max(map(len, lines)), 120, path.name)
            for node in ast.walk(ast.parse(text)):
                if isinstance(node, ast.FunctionDef):
                    self.assertLessEqual(node.end_lineno - node.lineno + 1, 40, node.name)

    def test_imports(self):
        for name, tree in trees():
            for node in ast.walk(tree):
                self.assertNotIsInstance(node, ast.Import, name)
                if isinstance(node, ast.ImportFrom):
                    self.assertIn(node, tree.body, name)
                    self.assertEqual(node.level, 0, name)
                    self.assertTrue(all(alias.name != "*" for alias in node.names), name)
                    if not node.module.startswith("branchorders."):
                        allowed = LIBRARY[node.module].split()
                        self.assertTrue(all(alias.name in allowed for alias in node.names), name)

    def test_module_level(self):
        kinds = (ast.ImportFrom, ast.FunctionDef, ast.ClassDef, ast.Assign)
        for name, tree in trees():
            for place, node in enumerate(tree.body):
                if not (place == 0 and is_docstring(node)):
                    self.assertIsInstance(node, kinds, f"{name}:{node.lineno}")

    def test_builtins(self):
        # A doctest that ran before leaves `_` among the builtins.
        known = set(dir(builtins)) - {"_"}
        for name, tree in trees():
            for node in ast.walk(tree):
                if isinstance(node, ast.Name) and node.id in known:
                    self.assertIn(node.id, BUILTINS, f"{name}:{node.lineno}")
                    self.assertIsInstance(node.ctx, ast.Load, f"{name}:{node.lineno}")
                elif isinstance(node, ast.arg):
                    self.assertNotIn(node.arg, known, f"{name}:{node.lineno}")
            for node in tree.body:
                if isinstance(node, (ast.FunctionDef, ast.ClassDef)):
                    self.assertNotIn(node.name, known, f"{name}:{node.lineno}")

    def test_names_of_imports_and_classes(self):
        """No parameter and no local variable has the name of an import or a class of its file."""
        for name, tree in trees():
            taken = {node.name for node in tree.body if isinstance(node, ast.ClassDef)} | set(imported(tree))
            for node in ast.walk(tree):
                if isinstance(node, ast.Name) and isinstance(node.ctx, ast.Store):
                    self.assertNotIn(node.id, taken, f"{name}:{node.lineno}")
                elif isinstance(node, ast.arg):
                    self.assertNotIn(node.arg, taken, f"{name}:{node.lineno}")

    def test_imports_of_own_names(self):
        """Each import names the file that defines the name, and is used; no two files import from each other."""
        defined = {name: names_defined(tree) for name, tree in trees()}
        above = {}
        for name, tree in trees():
            used = {node.id for node in ast.walk(tree) if isinstance(node, ast.Name)}
            above[name] = set()
            for imported_name, module in imported(tree).items():
                self.assertIn(imported_name, used, name)
                if module.startswith("branchorders."):
                    file = module.partition(".")[2] + ".py"
                    self.assertIn(imported_name, defined[file], name)
                    above[name].add(file)
        while above:
            lowest = [name for name, files_above in above.items() if not files_above & set(above)]
            self.assertTrue(lowest, above)
            for name in lowest:
                del above[name]

    def test_no_generator_expressions(self):
        """A class has `__eq__`, and so `any`, `sum` and the like take lists (L7)."""
        for name, tree in trees():
            for node in ast.walk(tree):
                self.assertNotIsInstance(node, ast.GeneratorExp, f"{name}: {getattr(node, 'lineno', 0)}")

    def test_decorators(self):
        for name, tree in trees():
            for node in ast.walk(tree):
                for decorator in getattr(node, "decorator_list", ()):
                    self.assertIsInstance(node, ast.FunctionDef, name)
                    self.assertIn(ast.unparse(decorator), ("property", "staticmethod", "classmethod"), name)

    def test_exponents(self):
        for name, tree in trees():
            for node in ast.walk(tree):
                if isinstance(node, ast.BinOp) and isinstance(node.op, ast.Pow):
                    self.assertIsInstance(node.right, ast.Constant, f"{name}:{node.lineno}")

    def test_methods(self):
        own = {node.name for _, tree in trees() for node in ast.walk(tree) if isinstance(node, ast.FunctionDef)}
        for name, tree in trees():
            for node in ast.walk(tree):
                if isinstance(node, ast.Call) and isinstance(node.func, ast.Attribute):
                    self.assertIn(node.func.attr, METHODS | own, f"{name}:{node.lineno}")

    def test_values(self):
        barred = (ast.Div, ast.Global, ast.AsyncFunctionDef, ast.Await, ast.ClassDef)
        for name, tree in trees():
            classes_on_top = [node for node in tree.body if isinstance(node, ast.ClassDef)]
            for node in ast.walk(tree):
                if isinstance(node, ast.Constant):
                    self.assertNotIsInstance(node.value, (float, complex), f"{name}:{node.lineno}")
                    if isinstance(node.value, str):
                        self.assertIsNone(re.search("%", node.value), f"{name}:{node.lineno}")
                elif isinstance(node, barred) and node not in classes_on_top:
                    self.fail(f"{name}: {node}")


if __name__ == "__main__":
    unittest.main()
