"""What of ../shared/LANGUAGE.md can be seen at a glance in the files of the package."""

import ast
import builtins
import pathlib
import re
import unittest
import warnings

PACKAGE = pathlib.Path(__file__).resolve().parent.parent / "farshells"
FILES = sorted(PACKAGE.glob("*.py"))

ALLOWED_BUILTINS = set(
    "len range enumerate zip min max sum abs sorted reversed int str bool bytes list tuple dict set frozenset "
    "isinstance ord repr any all divmod Exception ValueError TypeError KeyError IndexError LookupError "
    "ZeroDivisionError ArithmeticError OverflowError RuntimeError NotImplementedError AttributeError "
    "StopIteration NotImplemented".split()
)
BARRED_WORDS = re.compile(
    r"\b(type|typing|typing_extensions|enum|Enum|IntEnum|StrEnum|Flag|IntFlag|Generic|Protocol|ABC|ABCMeta|namedtuple|"
    r"NamedTuple|TypedDict|TYPE_CHECKING|abstractmethod)\b|dataclass|overload|contextmanager"
)
BARRED_NODES = (
    ast.Div, ast.Global, ast.AsyncFunctionDef, ast.AsyncFor, ast.AsyncWith, ast.Await, ast.Import,
)


ITERATED_AT_ONCE = ("range", "zip", "enumerate", "reversed")
ITERATING = "list tuple dict sorted sum any all enumerate zip bytes min max len".split()


def is_lazy(node):
    """Whether it is a call whose outcome is iterated on the spot, not stored."""
    if not isinstance(node, ast.Call):
        return False
    if isinstance(node.func, ast.Attribute):
        return node.func.attr in ("items", "keys", "values")
    return isinstance(node.func, ast.Name) and node.func.id in ITERATED_AT_ONCE


def iterated(tree):
    """All that is iterated where it stands, or asked for by in."""
    for node in ast.walk(tree):
        if isinstance(node, (ast.For, ast.comprehension)):
            yield node.iter
        elif isinstance(node, ast.Call) and isinstance(node.func, ast.Name) and node.func.id in ITERATING:
            yield from node.args
        elif isinstance(node, ast.Compare):
            yield from node.comparators


def bound_names(tree):
    """Every name that a file gives a meaning to."""
    names = []
    for node in ast.walk(tree):
        if isinstance(node, ast.Name) and isinstance(node.ctx, (ast.Store, ast.Del)):
            names.append(node.id)
        elif isinstance(node, ast.arg):
            names.append(node.arg)
        elif isinstance(node, (ast.FunctionDef, ast.ClassDef)):
            names.append(node.name)
        elif isinstance(node, ast.ExceptHandler) and node.name:
            names.append(node.name)
    return names


class Language(unittest.TestCase):
    def each(self):
        self.assertTrue(FILES)
        for path in FILES:
            with self.subTest(path.name):
                text = path.read_text(encoding="utf-8")
                with warnings.catch_warnings():
                    warnings.simplefilter("error")
                    yield path, text, ast.parse(text)

    def test_the_folder_has_nothing_but_files_of_the_package(self):
        others = [path.name for path in PACKAGE.iterdir() if path not in FILES and path.name != "__pycache__"]
        self.assertEqual(others, [])
        for path in FILES:
            self.assertRegex(path.name, r"^(__init__|[a-z][a-z0-9_]*)\.py$")

    def test_sizes_and_signs(self):
        for path, text, tree in self.each():
            lines = text.splitlines()
            self.assertLessEqual(len(lines), 400)
            self.assertLessEqual(max(map(len, lines), default=0), 120)
            self.assertRegex(text, r"\A[\n -~]*\Z")
            for node in ast.walk(tree):
                if isinstance(node, ast.FunctionDef):
                    self.assertLessEqual(node.end_lineno - node.lineno + 1, 40, node.name)

    def test_words_and_strings(self):
        for path, text, tree in self.each():
            self.assertIsNone(BARRED_WORDS.search(text))
            for node in ast.walk(tree):
                if isinstance(node, ast.Constant):
                    self.assertNotIsInstance(node.value, (float, complex))
                    if isinstance(node.value, str):
                        self.assertNotIn("%", node.value)

    def test_nodes_imports_and_comparisons(self):
        for path, text, tree in self.each():
            for node in ast.walk(tree):
                self.assertNotIsInstance(node, BARRED_NODES)
                if isinstance(node, ast.ImportFrom):
                    self.assertIn(node, tree.body)
                    self.assertEqual(node.level, 0)
                    self.assertTrue(node.module.startswith("farshells."))
                if isinstance(node, ast.Compare):
                    for sign, side in zip(node.ops, node.comparators):
                        if isinstance(sign, (ast.Is, ast.IsNot)):
                            self.assertIn(getattr(side, "value", 0), (None, True, False))

    def test_names(self):
        for path, text, tree in self.each():
            imported = [one.asname or one.name for node in ast.walk(tree)
                        if isinstance(node, ast.ImportFrom) for one in node.names]
            names = [name for name in bound_names(tree) if name != "__init__"]
            for name in names:
                self.assertRegex(name, r"^[A-Za-z][A-Za-z0-9_]*$")
                self.assertFalse(hasattr(builtins, name), name)
                self.assertNotIn(name, imported)
            for node in ast.walk(tree):
                if isinstance(node, ast.Name) and node.id not in names + imported:
                    self.assertIn(node.id, ALLOWED_BUILTINS)

    def test_what_is_iterated_at_once_is_not_stored(self):
        for path, text, tree in self.each():
            at_once = list(iterated(tree))
            for node in ast.walk(tree):
                if is_lazy(node):
                    self.assertIn(node, at_once, ast.unparse(node))
                if isinstance(node, ast.GeneratorExp):
                    self.assertIn(node, at_once, ast.unparse(node))

    def test_sets_stand_in_sorted_or_len_or_behind_in(self):
        for path, text, tree in self.each():
            asked = [
                part for node in ast.walk(tree) if isinstance(node, ast.Call) and isinstance(node.func, ast.Name)
                and node.func.id in ("sorted", "len") for part in node.args
            ]
            asked += [part for node in ast.walk(tree) if isinstance(node, ast.Compare) for part in node.comparators]
            for node in ast.walk(tree):
                if isinstance(node, (ast.Set, ast.SetComp)):
                    self.assertIn(node, asked, ast.unparse(node))

    def test_no_module_level_code(self):
        for path, text, tree in self.each():
            for at, node in enumerate(tree.body):
                docstring = at == 0 and isinstance(node, ast.Expr) and isinstance(node.value, ast.Constant)
                allowed = (ast.ImportFrom, ast.FunctionDef, ast.ClassDef, ast.Assign)
                self.assertTrue(docstring or isinstance(node, allowed), ast.dump(node))


if __name__ == "__main__":
    unittest.main()
