"""Those rules for the form of the code that are easy to check."""

import ast
import builtins
import pathlib
import re
import unittest
import warnings

PACKAGE = pathlib.Path(__file__).resolve().parent.parent / "tasterow"

BUILTINS = set("""
len range enumerate zip min max sum abs sorted reversed int str bool bytes list tuple dict set
isinstance ord repr any all divmod iter next super property staticmethod classmethod
Exception ValueError TypeError KeyError IndexError LookupError ZeroDivisionError ArithmeticError
OverflowError RuntimeError NotImplementedError AttributeError StopIteration NotImplemented
""".split())

BARRED = re.compile(
    r"\b(type|typing|typing_extensions|enum|Enum|IntEnum|StrEnum|Flag|IntFlag|Generic|Protocol|ABC"
    r"|ABCMeta|namedtuple|NamedTuple|TypedDict|TYPE_CHECKING|abstractmethod)\b"
    r"|dataclass|overload|contextmanager"
)


LAZY = ("zip", "enumerate", "reversed", "range", "items", "keys", "values")
TAKES_LAZY = ("list", "tuple", "dict", "sorted", "sum", "any", "all", "enumerate", "zip", "min", "max", "reversed")


def lazy(call):
    """Whether a call gives something that is iterated once."""
    return (getattr(call.func, "id", None) or getattr(call.func, "attr", None)) in LAZY


def sources():
    return [(path.name, path.read_text()) for path in sorted(PACKAGE.glob("*.py"))]


def nodes(kind):
    return [
        (name, node) for name, text in sources()
        for node in ast.walk(ast.parse(text)) if isinstance(node, kind)
    ]


class Form(unittest.TestCase):

    def test_the_folder_contains_modules_only(self):
        found = [path.name for path in PACKAGE.iterdir() if path.name != "__pycache__"]
        self.assertIn("__init__.py", found)
        for name in found:
            self.assertRegex(name, r"^[a-z0-9_]+\.py$")

    def test_characters_and_sizes(self):
        for name, text in sources():
            with self.subTest(name=name):
                self.assertIsNone(re.search(r"[^ -~\n]", text))
                self.assertIsNone(BARRED.search(text))
                lines = text.splitlines()
                self.assertLessEqual(len(lines), 399)
                self.assertLessEqual(max([len(line) for line in lines]), 120)

    def test_python_gives_no_warning(self):
        for name, text in sources():
            with self.subTest(name=name), warnings.catch_warnings():
                warnings.simplefilter("error")
                compile(text, name, "exec")

    def test_functions_are_short_and_undecorated(self):
        for name, node in nodes(ast.FunctionDef):
            with self.subTest(name=name, function=node.name):
                self.assertLessEqual(node.end_lineno - node.lineno + 1, 40)
                self.assertEqual(node.decorator_list, [])

    def test_imports_come_from_the_package(self):
        self.assertEqual(nodes(ast.Import), [])
        for name, node in nodes(ast.ImportFrom):
            with self.subTest(name=name, module=node.module):
                self.assertEqual(node.level, 0)
                self.assertRegex(node.module, r"^tasterow\.[a-z]+$")

    def test_only_listed_builtins(self):
        for name, node in nodes(ast.Name):
            if hasattr(builtins, node.id):
                with self.subTest(name=name, line=node.lineno):
                    self.assertIn(node.id, BUILTINS)
                    self.assertIsInstance(node.ctx, ast.Load)

    def test_no_local_name_hides_another(self):
        for name, text in sources():
            tree = ast.parse(text)
            outer = {node.name for node in tree.body if isinstance(node, (ast.FunctionDef, ast.ClassDef))}
            for node in tree.body:
                if isinstance(node, ast.ImportFrom):
                    outer.update([alias.asname or alias.name for alias in node.names])
            for node in ast.walk(tree):
                word = node.arg if isinstance(node, ast.arg) else ""
                if isinstance(node, ast.Name) and isinstance(node.ctx, ast.Store):
                    word = node.id
                with self.subTest(name=name, word=word):
                    self.assertNotIn(word, outer)
                    self.assertFalse(hasattr(builtins, word))

    def test_lazy_values_are_iterated_on_the_spot(self):
        for name, node in nodes(ast.Call):
            for part in node.args:
                if isinstance(part, ast.Call) and lazy(part):
                    with self.subTest(name=name, line=node.lineno):
                        self.assertIn(getattr(node.func, "id", ""), TAKES_LAZY)
        for name, node in nodes((ast.Assign, ast.Return)):
            with self.subTest(name=name, line=node.lineno):
                self.assertFalse(isinstance(node.value, ast.Call) and lazy(node.value))

    def test_lists_instead_of_generators(self):
        self.assertEqual(nodes((ast.GeneratorExp, ast.Yield, ast.YieldFrom)), [])

    def test_plain_names(self):
        for name, node in nodes((ast.Name, ast.arg, ast.Attribute)):
            word = [getattr(node, field) for field in ("id", "arg", "attr") if hasattr(node, field)][0]
            with self.subTest(name=name, word=word):
                self.assertRegex(word, r"^([A-Za-z]\w*|__init__)$")

    def test_no_fractions(self):
        self.assertEqual(nodes(ast.Div), [])
        for name, node in nodes(ast.Constant):
            with self.subTest(name=name, line=node.lineno):
                self.assertNotIsInstance(node.value, (float, complex))
                self.assertNotIn("%", str(node.value))
