"""The package keeps to the plain part of Python: those of its rules that are seen at a glance."""

import ast
import builtins
import re
import unittest
from pathlib import Path

PACKAGE = Path(__file__).resolve().parent.parent / "rimsteps"

OWN_NAMES = set(
    "len range enumerate zip min max sum abs sorted reversed int str bool bytes list tuple dict set frozenset "
    "isinstance ord repr any all divmod Exception ValueError TypeError KeyError IndexError LookupError "
    "ZeroDivisionError ArithmeticError OverflowError RuntimeError NotImplementedError StopIteration".split()
)

BARRED_NODES = (
    ast.Yield, ast.YieldFrom, ast.GeneratorExp, ast.With, ast.Match, ast.Global, ast.Nonlocal, ast.AsyncFunctionDef,
    ast.Await, ast.NamedExpr, ast.Div, ast.MatMult, ast.Import,
)

BARRED_WORDS = re.compile(
    r"\b(type|typing|typing_extensions|enum|Enum|IntEnum|StrEnum|Flag|IntFlag|Generic|Protocol|ABC|ABCMeta|namedtuple"
    r"|NamedTuple|TypedDict|TYPE_CHECKING|abstractmethod)\b|dataclass|overload|contextmanager"
)

METHODS = set(
    "append clear copy count endswith extend find get index insert isalnum isalpha isdigit islower isspace isupper "
    "items join keys ljust lower lstrip partition pop remove replace reverse rfind rjust rpartition rsplit rstrip "
    "setdefault split splitlines startswith strip update upper values zfill bit_length add discard sort".split()
)


def sources():
    for path in sorted(PACKAGE.glob("*.py")):
        yield path, path.read_text(encoding="utf-8")


def trees():
    for path, text in sources():
        yield path, ast.parse(text)


def given_names(tree):
    for node in ast.walk(tree):
        if isinstance(node, ast.Name) and isinstance(node.ctx, ast.Store):
            yield node.id
        elif isinstance(node, ast.arg):
            yield node.arg
        elif isinstance(node, (ast.FunctionDef, ast.ClassDef)):
            yield node.name


class Language(unittest.TestCase):
    def test_nothing_else_lies_in_the_package(self):
        others = [path.name for path in PACKAGE.iterdir() if path.suffix != ".py" and path.name != "__pycache__"]
        self.assertEqual(others, [])
        for path, text in sources():
            self.assertRegex(path.name, r"^(__init__|__main__|[a-z][a-z0-9_]*)\.py$")

    def test_signs_and_sizes(self):
        for path, text in sources():
            with self.subTest(file=path.name):
                self.assertRegex(text, r"\A[ -~\n]*\Z")
                rows = text.split("\n")
                self.assertLessEqual(len(rows), 400)
                self.assertLessEqual(max(len(row) for row in rows), 120)

    def test_functions_are_short(self):
        for path, tree in trees():
            for node in ast.walk(tree):
                if isinstance(node, ast.FunctionDef):
                    self.assertLessEqual(node.end_lineno - node.lineno + 1, 40, f"{path.name}: {node.name}")

    def test_words_that_stand_nowhere(self):
        for path, text in sources():
            with self.subTest(file=path.name):
                self.assertIsNone(BARRED_WORDS.search(text))

    def test_forms_that_are_not_used(self):
        for path, tree in trees():
            for node in ast.walk(tree):
                where = f"{path.name}: {getattr(node, 'lineno', 0)}"
                self.assertNotIsInstance(node, BARRED_NODES, where)
                if isinstance(node, ast.Constant):
                    self.assertNotIsInstance(node.value, (float, complex), where)
                    self.assertFalse(isinstance(node.value, str) and "%" in node.value, where)
                if isinstance(node, (ast.For, ast.While)):
                    self.assertEqual(node.orelse, [], where)
                if isinstance(node, (ast.FunctionDef, ast.ClassDef)):
                    self.assertEqual(node.decorator_list, [], where)

    def test_names(self):
        for path, tree in trees():
            drawn = {alias.name for node in tree.body if isinstance(node, ast.ImportFrom) for alias in node.names}
            for name in given_names(tree):
                where = f"{path.name}: {name}"
                self.assertTrue(name == "__init__" or not name.startswith("_"), where)
                self.assertFalse(hasattr(builtins, name) and name != "__init__", where)
                self.assertNotIn(name, drawn, where)

    def test_python_s_own_names_and_methods(self):
        for path, tree in trees():
            own = {node.name for node in ast.walk(tree) if isinstance(node, ast.FunctionDef)}
            for node in ast.walk(tree):
                if isinstance(node, ast.Name) and hasattr(builtins, node.id):
                    self.assertIn(node.id, OWN_NAMES, path.name)
                if isinstance(node, ast.Call) and isinstance(node.func, ast.Attribute):
                    self.assertIn(node.func.attr, METHODS | own, path.name)

    def test_is_and_powers(self):
        for path, tree in trees():
            for node in ast.walk(tree):
                where = f"{path.name}: {getattr(node, 'lineno', 0)}"
                if isinstance(node, ast.Compare) and any(isinstance(sign, (ast.Is, ast.IsNot)) for sign in node.ops):
                    self.assertIn(ast.unparse(node.comparators[0]), ("None", "True", "False"), where)
                if isinstance(node, ast.BinOp) and isinstance(node.op, ast.Pow):
                    self.assertIsInstance(node.right, ast.Constant, where)

    def test_values_at_the_top_hold_no_lists(self):
        for path, tree in trees():
            for node in tree.body:
                if isinstance(node, ast.Assign):
                    held = [other for other in ast.walk(node.value) if isinstance(other, (ast.List, ast.Dict, ast.Set))]
                    self.assertIn(held, ([], [node.value]), f"{path.name}: {node.lineno}")

    def test_no_method_of_one_class_is_a_value_of_another(self):
        methods, values = set(), set()
        for path, tree in trees():
            for node in ast.walk(tree):
                if isinstance(node, ast.ClassDef):
                    methods |= {deed.name for deed in node.body if isinstance(deed, ast.FunctionDef)}
                if isinstance(node, ast.Attribute) and isinstance(node.ctx, ast.Store):
                    values.add(node.attr)
        self.assertEqual(methods & values, set())

    def test_imports_are_own_and_go_one_way(self):
        draws = {}
        for path, tree in trees():
            draws[path.stem] = set()
            for node in ast.walk(tree):
                if isinstance(node, ast.ImportFrom):
                    self.assertEqual(node.level, 0)
                    self.assertRegex(node.module, r"^rimsteps\.[a-z_]+$")
                    draws[path.stem].add(node.module.split(".")[1])
        while draws:
            free = [name for name, needed in draws.items() if not needed & set(draws)]
            self.assertTrue(free, f"drawn from one another: {sorted(draws)}")
            for name in free:
                del draws[name]


if __name__ == "__main__":
    unittest.main()
