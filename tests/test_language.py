"""What a test can see of the rules in LANGUAGE.md (the numbers of the rules stand with the tests)."""

import ast
import builtins
import re
import unittest
from pathlib import Path

PACKAGE = Path(__file__).resolve().parent.parent / "twinties"
LIBRARY = {
    "heapq": {"heappush", "heappop", "heapify", "heapreplace", "heappushpop"},
    "math": {"gcd", "lcm", "isqrt", "comb", "perm", "factorial"},
    "itertools": {
        "product", "combinations", "permutations", "chain", "accumulate", "pairwise", "islice", "zip_longest",
    },
    "collections": {"defaultdict"},
}
CALLED = set(
    "len range enumerate zip min max sum abs sorted reversed int str bool list tuple dict set isinstance ord repr any "
    "all divmod pow getattr hasattr setattr iter next map super property staticmethod classmethod".split()
)
ERRORS = set(
    "Exception ValueError TypeError KeyError IndexError LookupError ZeroDivisionError ArithmeticError OverflowError "
    "RuntimeError NotImplementedError AttributeError StopIteration NotImplemented".split()
)
METHODS = set(
    "append clear copy count endswith extend find get index insert isalnum isalpha isdigit islower isspace isupper "
    "items join keys ljust lower lstrip partition pop remove replace reverse rfind rjust rpartition rsplit rstrip "
    "setdefault split splitlines startswith strip update upper values zfill bit_length".split()
)
DOUBLE = ("__init__", "__eq__")
BARRED = (
    "type|typing|typing_extensions|enum|Enum|IntEnum|StrEnum|Flag|IntFlag|Generic|Protocol|ABC|ABCMeta|namedtuple|"
    "NamedTuple|TypedDict|TYPE_CHECKING|abstractmethod|register|mro|elements|open|input|law|eval|exec|globals|locals"
)
REFUSED = (
    ast.Global, ast.AsyncFunctionDef, ast.AsyncFor, ast.AsyncWith, ast.Await, ast.Div, ast.MatMult, ast.GeneratorExp,
    ast.Import, ast.AnnAssign, ast.TypeIgnore,
)


def files():
    return sorted(PACKAGE.glob("*.py"))


def trees():
    return [(path, ast.parse(path.read_text("utf-8"))) for path in files()]


def functions(tree):
    return [node for node in ast.walk(tree) if isinstance(node, ast.FunctionDef)]


def imports(tree):
    return [node for node in tree.body if isinstance(node, ast.ImportFrom)]


def stored(node):
    """The names that a function assigns, as parameters or otherwise."""
    names = [argument.arg for one in ast.walk(node) if isinstance(one, ast.arguments) for argument in one.args]
    return names + [one.id for one in ast.walk(node) if isinstance(one, ast.Name) and isinstance(one.ctx, ast.Store)]


class LanguageTest(unittest.TestCase):
    def test_the_folder_holds_plain_files_alone(self):
        """L1, L14."""
        self.assertIn("__init__.py", [path.name for path in files()])
        for path in PACKAGE.iterdir():
            if path.name != "__pycache__":
                self.assertRegex(path.name, r"^([a-z][a-z0-9_]*|__init__)\.py$")
                self.assertNotIn(path.stem, dir(builtins))

    def test_sizes_and_characters(self):
        """L10, L14."""
        for path in files():
            text = path.read_bytes()
            self.assertTrue(all(sign == 10 or 32 <= sign <= 126 for sign in text), path)
            lines = text.decode().split("\n")
            self.assertLessEqual(len(lines), 399, path)
            self.assertLessEqual(max(len(line) for line in lines), 120, path)
        for path, tree in trees():
            for node in functions(tree):
                self.assertLessEqual(node.end_lineno - node.lineno + 1, 40, (path, node.name))

    def test_imports_name_the_file_that_defines(self):
        """L2, L16."""
        defined = {}
        for path, tree in trees():
            plain = [node.targets[0].id for node in tree.body if isinstance(node, ast.Assign)]
            named = [node.name for node in tree.body if isinstance(node, (ast.FunctionDef, ast.ClassDef))]
            defined["twinties." + path.stem] = plain + named
        for path, tree in trees():
            for node in imports(tree):
                self.assertEqual(node.level, 0)
                known = LIBRARY[node.module] if node.module in LIBRARY else defined[node.module]
                for alias in node.names:
                    self.assertIn(alias.name, known, path)
                    self.assertIsNone(alias.asname)

    def test_no_files_import_each_other(self):
        """L16."""
        uses = {"twinties." + path.stem: {node.module for node in imports(tree)} for path, tree in trees()}
        while uses:
            ready = [name for name, needed in uses.items() if not needed & set(uses)]
            self.assertNotEqual(ready, [], uses)
            uses = {name: needed for name, needed in uses.items() if name not in ready}

    def test_only_plain_statements(self):
        """L3, L4, L6, L7, L21, L23, L27."""
        for path, tree in trees():
            for node in tree.body:
                text = isinstance(node, ast.Expr) and isinstance(node.value, ast.Constant)
                told = isinstance(node, (ast.ImportFrom, ast.FunctionDef, ast.ClassDef, ast.Assign))
                self.assertTrue(text or told, (path, node.lineno))
            for node in ast.walk(tree):
                self.assertNotIsInstance(node, REFUSED, (path, getattr(node, "lineno", 0)))
                if isinstance(node, ast.Constant):
                    self.assertNotIsInstance(node.value, (float, complex))
                    self.assertFalse(isinstance(node.value, str) and "%" in node.value, path)
                if isinstance(node, ast.Pow):
                    self.fail(path)
                if isinstance(node, (ast.FunctionDef, ast.ClassDef)):
                    self.assertEqual(node.decorator_list, [])

    def test_only_told_builtins_and_methods(self):
        """L8, L25."""
        own = {
            method.name for _, tree in trees() for node in tree.body if isinstance(node, ast.ClassDef)
            for method in node.body if isinstance(method, ast.FunctionDef)
        }
        for path, tree in trees():
            called = [node.func for node in ast.walk(tree) if isinstance(node, ast.Call)]
            for node in ast.walk(tree):
                if isinstance(node, ast.Name) and node.id in dir(builtins):
                    self.assertIn(node.id, CALLED | ERRORS, path)
                if isinstance(node, ast.Attribute) and node in called:
                    self.assertIn(node.attr, METHODS | own, path)

    def test_no_name_is_taken_twice(self):
        """L8, L12, L15."""
        for path, tree in trees():
            classes = [node.name for node in tree.body if isinstance(node, ast.ClassDef)]
            imported = [alias.name for node in imports(tree) for alias in node.names]
            named = [node.name for node in functions(tree) if node.name not in DOUBLE]
            top = classes + imported + [node.name for node in tree.body if isinstance(node, ast.FunctionDef)]
            self.assertEqual(len(set(top)), len(top), path)
            for name in stored(tree) + named + classes:
                self.assertNotIn(name, dir(builtins), path)
                self.assertRegex(name, r"^(_|_?[A-Za-z][A-Za-z0-9_]*)$")
            for node in functions(tree):
                self.assertEqual(set(stored(node)) & set(classes + imported), set(), (path, node.name))

    def test_sets_and_products_are_used_on_the_spot(self):
        """L2, L24."""
        for path, tree in trees():
            for node in ast.walk(tree):
                if isinstance(node, ast.Assign) and isinstance(node.value, ast.Call):
                    name = getattr(node.value.func, "id", "")
                    self.assertNotIn(name, ("combinations", "product", "permutations", "map", "zip"), path)
                if isinstance(node, (ast.For, ast.comprehension)):
                    self.assertNotIsInstance(node.iter, (ast.Set, ast.SetComp), path)

    def test_barred_words(self):
        """L17: they may stand in comments and docstrings alone."""
        for path, tree in trees():
            words = [node.id for node in ast.walk(tree) if isinstance(node, ast.Name)]
            words += [node.attr for node in ast.walk(tree) if isinstance(node, ast.Attribute)]
            words += stored(tree) + [node.name for node in functions(tree)]
            for word in words:
                self.assertIsNone(re.fullmatch(BARRED, word), (path, word))


if __name__ == "__main__":
    unittest.main()
