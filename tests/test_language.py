"""The form of the package's files: what of the language's rules can be seen in a short look."""

import ast
import builtins
import re
import unittest
from pathlib import Path

PACKAGE = Path(__file__).resolve().parent.parent / "nearwish"

LIBRARY = {
    "heapq": {"heappush", "heappop", "heapify", "heapreplace", "heappushpop"},
    "math": {"gcd", "lcm", "isqrt", "comb", "perm", "factorial"},
    "itertools": {"product", "combinations", "permutations", "chain", "accumulate", "pairwise", "islice",
                  "zip_longest"},
    "collections": {"defaultdict", "deque"},
}

BARRED = (ast.AsyncFunctionDef, ast.AsyncFor, ast.AsyncWith, ast.Await, ast.Global, ast.Div, ast.Import,
          ast.GeneratorExp, ast.Set, ast.AnnAssign)

BUILTINS = {
    "len", "range", "enumerate", "zip", "min", "max", "sum", "abs", "sorted", "reversed", "int", "str", "bool",
    "list", "tuple", "dict", "set", "isinstance", "ord", "any", "all", "divmod", "super", "ValueError",
}

METHODS = {
    "append", "clear", "copy", "count", "endswith", "extend", "find", "get", "index", "insert", "items", "join",
    "keys", "lower", "pop", "remove", "replace", "reverse", "rfind", "setdefault", "split", "splitlines",
    "startswith", "strip", "update", "upper", "values", "bit_length", "add", "discard",
}


# What a stranger hands in is called by this name.
HANDED_IN = {"tell"}


def files():
    return sorted(PACKAGE.rglob("*.py"))


def nodes(path):
    return list(ast.walk(ast.parse(path.read_text(encoding="utf-8"))))


def package_names():
    """The names of the functions and classes of the package, methods included."""
    kinds = (ast.FunctionDef, ast.ClassDef)
    return {node.name for path in files() for node in nodes(path) if isinstance(node, kinds)}


class Language(unittest.TestCase):

    def test_only_plain_files(self):
        for path in PACKAGE.rglob("*"):
            if "__pycache__" not in path.parts:
                self.assertTrue(path.is_dir() or re.fullmatch(r"[a-z0-9_]+\.py", path.name), path)

    def test_characters_and_sizes(self):
        for path in files():
            text = path.read_bytes()
            self.assertEqual([sign for sign in set(text) if sign != 10 and not 32 <= sign <= 126], [], path)
            lines = text.decode("ascii").split("\n")
            self.assertLessEqual(len(lines), 399, path)
            self.assertLessEqual(max(map(len, lines)), 120, path)
            for node in nodes(path):
                if isinstance(node, ast.FunctionDef):
                    self.assertLessEqual(node.end_lineno - node.lineno + 1, 40, (path, node.name))

    def test_imports(self):
        for path in files():
            for node in nodes(path):
                if isinstance(node, ast.ImportFrom):
                    names = {alias.name for alias in node.names}
                    self.assertEqual([alias.asname for alias in node.names if alias.asname], [])
                    if node.module in LIBRARY:
                        self.assertEqual(names - LIBRARY[node.module], set(), path)
                    else:
                        self.assertTrue(node.module.startswith("nearwish."), path)

    def test_names_of_classes_and_imports_mean_nothing_else(self):
        for path in files():
            tree = ast.parse(path.read_text(encoding="utf-8"))
            taken = {alias.name for node in tree.body if isinstance(node, ast.ImportFrom) for alias in node.names}
            taken |= {node.name for node in tree.body if isinstance(node, ast.ClassDef)} | set(dir(builtins))
            for node in ast.walk(tree):
                if isinstance(node, ast.arg):
                    self.assertNotIn(node.arg, taken, (path, node.lineno))
                if isinstance(node, ast.Name) and isinstance(node.ctx, ast.Store):
                    self.assertNotIn(node.id, taken, (path, node.lineno))

    def test_no_two_files_import_from_each_other(self):
        above = {path.stem: {node.module.split(".")[1] for node in nodes(path) if isinstance(node, ast.ImportFrom)
                             and node.module.startswith("nearwish.")} for path in files()}
        done = set()
        while above:
            free = [name for name in above if above[name] <= done]
            self.assertNotEqual(free, [])
            for name in free:
                done.add(name)
                del above[name]

    def test_no_barred_syntax(self):
        for path in files():
            for node in nodes(path):
                self.assertNotIsInstance(node, BARRED, (path, getattr(node, "lineno", 0)))
                if isinstance(node, ast.Constant):
                    self.assertNotIsInstance(node.value, (float, complex, bytes), path)
                    self.assertFalse(isinstance(node.value, str) and "%" in node.value, path)
                if isinstance(node, ast.FunctionDef):
                    self.assertEqual(node.decorator_list, [], path)

    def test_module_level(self):
        for path in files():
            for node in ast.parse(path.read_text(encoding="utf-8")).body:
                kinds = (ast.ImportFrom, ast.FunctionDef, ast.ClassDef, ast.Assign, ast.Expr)
                self.assertIsInstance(node, kinds, path)
                if isinstance(node, ast.Expr):
                    self.assertIsInstance(node.value, ast.Constant, path)

    def test_calls(self):
        own = package_names() | HANDED_IN | {name for names in LIBRARY.values() for name in names}
        for path in files():
            for node in nodes(path):
                if isinstance(node, ast.Call) and isinstance(node.func, ast.Name):
                    self.assertIn(node.func.id, BUILTINS | own, (path, node.lineno))
                if isinstance(node, ast.Call) and isinstance(node.func, ast.Attribute):
                    self.assertIn(node.func.attr, METHODS | own | {"__init__"}, (path, node.lineno))


if __name__ == "__main__":
    unittest.main()
