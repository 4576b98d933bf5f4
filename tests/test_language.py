"""The rules of LANGUAGE.md that a short look at the files can tell: L1, L2, L3, L8, L10, L14, L25 and L27."""

import ast
import builtins
import pathlib
import re
import unittest

PACKAGE = pathlib.Path(__file__).resolve().parent.parent / "branchorders"

LIBRARY = {
    "heapq": "heappush heappop heapify heapreplace heappushpop",
    "math": "gcd lcm isqrt comb perm factorial",
    "itertools": "product combinations permutations chain accumulate pairwise islice zip_longest",
    "collections": "defaultdict deque",
}

BUILTINS = set("""
    len range enumerate zip min max sum abs sorted reversed int str bool bytes list tuple dict set frozenset isinstance
    ord repr any all divmod pow getattr hasattr setattr iter next map type super property staticmethod classmethod
    Exception ValueError TypeError KeyError IndexError LookupError ZeroDivisionError ArithmeticError OverflowError
    RuntimeError NotImplementedError AttributeError StopIteration NotImplemented
""".split())

METHODS = set("""
    append clear copy count endswith extend find get index insert isalnum isalpha isdigit islower isspace isupper items
    join keys ljust lower lstrip partition pop remove replace reverse rfind rjust rpartition rsplit rstrip setdefault
    split splitlines startswith strip update upper values zfill bit_length title capitalize swapcase casefold center
    expandtabs removeprefix removesuffix rindex isascii isdecimal isnumeric istitle isidentifier isprintable sort add
    discard appendleft popleft extendleft rotate from_iterable __init__
""".split())


def files():
    return sorted(path for path in PACKAGE.rglob("*") if "__pycache__" not in path.parts and path.is_file())


def trees():
    return [(path.name, ast.parse(path.read_text(encoding="utf-8"))) for path in files()]


def is_docstring(node):
    return isinstance(node, ast.Expr) and isinstance(node.value, ast.Constant) and isinstance(node.value.value, str)


class LanguageTest(unittest.TestCase):

    def test_files(self):
        self.assertTrue((PACKAGE / "__init__.py").is_file())
        for path in files():
            self.assertRegex(path.name, r"\A[a-z_][a-z0-9_]*\.py\Z")

    def test_sizes_and_characters(self):
        for path in files():
            text = path.read_text(encoding="utf-8")
            self.assertTrue(all(character == "\n" or " " <= character <= "~" for character in text), path.name)
            lines = text.split("\n")
            self.assertLessEqual(len(lines) - 1, 399, path.name)
            self.assertLessEqual(max(map(len, lines)), 120, path.name)
            for node in ast.walk(ast.parse(text)):
                if isinstance(node, ast.FunctionDef):
                    self.assertLessEqual(node.end_lineno - node.lineno + 1, 40, node.name)

    def test_imports(self):
        for name, tree in trees():
            for node in ast.walk(tree):
                self.assertNotIsInstance(node, ast.Import, name)
                if isinstance(node, ast.ImportFrom):
                    self.assertIn(node, tree.body, name)
                    self.assertEqual(node.level, 0, name)
                    self.assertTrue(all(alias.name != "*" for alias in node.names), name)
                    if not node.module.startswith("branchorders."):
                        allowed = LIBRARY[node.module].split()
                        self.assertTrue(all(alias.name in allowed for alias in node.names), name)

    def test_module_level(self):
        kinds = (ast.ImportFrom, ast.FunctionDef, ast.ClassDef, ast.Assign)
        for name, tree in trees():
            for place, node in enumerate(tree.body):
                if not (place == 0 and is_docstring(node)):
                    self.assertIsInstance(node, kinds, f"{name}:{node.lineno}")

    def test_builtins(self):
        known = set(dir(builtins))
        for name, tree in trees():
            for node in ast.walk(tree):
                if isinstance(node, ast.Name) and node.id in known:
                    self.assertIn(node.id, BUILTINS, f"{name}:{node.lineno}")
                    self.assertIsInstance(node.ctx, ast.Load, f"{name}:{node.lineno}")

    def test_methods(self):
        own = {node.name for _, tree in trees() for node in ast.walk(tree) if isinstance(node, ast.FunctionDef)}
        for name, tree in trees():
            for node in ast.walk(tree):
                if isinstance(node, ast.Call) and isinstance(node.func, ast.Attribute):
                    self.assertIn(node.func.attr, METHODS | own, f"{name}:{node.lineno}")

    def test_values(self):
        barred = (ast.Div, ast.Global, ast.AsyncFunctionDef, ast.Await, ast.ClassDef)
        for name, tree in trees():
            classes_on_top = [node for node in tree.body if isinstance(node, ast.ClassDef)]
            for node in ast.walk(tree):
                if isinstance(node, ast.Constant):
                    self.assertNotIsInstance(node.value, (float, complex), f"{name}:{node.lineno}")
                    if isinstance(node.value, str):
                        self.assertIsNone(re.search("%", node.value), f"{name}:{node.lineno}")
                elif isinstance(node, barred) and node not in classes_on_top:
                    self.fail(f"{name}: {node}")


if __name__ == "__main__":
    unittest.main()
