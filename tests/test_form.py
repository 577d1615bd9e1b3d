"""Those rules for the form of the code that are easy to check."""

import ast
import builtins
import functools
import pathlib
import re
import unittest
import warnings

PACKAGE = pathlib.Path(__file__).resolve().parent.parent / "tasterow"

BUILTINS = set("""
len range enumerate zip min max sum abs sorted reversed int str bool bytes list tuple dict set
isinstance ord repr any all divmod iter next super property staticmethod classmethod
Exception ValueError TypeError KeyError IndexError LookupError ZeroDivisionError ArithmeticError
OverflowError RuntimeError NotImplementedError AttributeError StopIteration NotImplemented
""".split())

BARRED = re.compile(
    r"\b(type|typing|typing_extensions|enum|Enum|IntEnum|StrEnum|Flag|IntFlag|Generic|Protocol|ABC"
    r"|ABCMeta|namedtuple|NamedTuple|TypedDict|TYPE_CHECKING|abstractmethod)\b"
    r"|dataclass|overload|contextmanager"
)

# Methods of builtin values.
METHODS = set("""
append clear copy count endswith extend find get index insert isalnum isalpha isdigit islower isspace isupper items
join keys ljust lower lstrip partition pop remove replace reverse rfind rjust rpartition rsplit rstrip setdefault split
splitlines startswith strip update upper values zfill bit_length
""".split())

LAZY = ("zip", "enumerate", "reversed", "range", "items", "keys", "values")
TAKES_LAZY = ("list", "tuple", "dict", "sorted", "sum", "any", "all", "enumerate", "zip", "min", "max", "reversed")


def lazy(call):
    """Whether a call gives something that is iterated once."""
    return (getattr(call.func, "id", None) or getattr(call.func, "attr", None)) in LAZY


def sources():
    return [(path.name, path.read_text()) for path in sorted(PACKAGE.glob("*.py"))]


@functools.cache
def trees():
    return [(name, ast.parse(text)) for name, text in sources()]


def nodes(kind):
    return [(name, node) for name, tree in trees() for node in ast.walk(tree) if isinstance(node, kind)]


def own_methods():
    return {item.name for name, node in nodes(ast.ClassDef) for item in node.body if isinstance(item, ast.FunctionDef)}


def stored_attributes():
    return {node.attr for name, node in nodes(ast.Attribute) if isinstance(node.ctx, ast.Store)}


class Form(unittest.TestCase):

    def test_the_folder_contains_modules_only(self):
        found = [path.name for path in PACKAGE.iterdir() if path.name != "__pycache__"]
        self.assertIn("__init__.py", found)
        for name in found:
            self.assertRegex(name, r"^[a-z0-9_]+\.py$")

    def test_characters_and_sizes(self):
        for name, text in sources():
            with self.subTest(name=name):
                self.assertIsNone(re.search(r"[^ -~\n]", text))
                self.assertIsNone(BARRED.search(text))
                lines = text.splitlines()
                self.assertLessEqual(len(lines), 399)
                self.assertLessEqual(max([len(line) for line in lines]), 120)

    def test_python_gives_no_warning(self):
        for name, text in sources():
            with self.subTest(name=name), warnings.catch_warnings():
                warnings.simplefilter("error")
                compile(text, name, "exec")

    def test_functions_are_short_and_undecorated(self):
        for name, node in nodes(ast.FunctionDef):
            with self.subTest(name=name, function=node.name):
                self.assertLessEqual(node.end_lineno - node.lineno + 1, 40)
                self.assertEqual(node.decorator_list, [])

    def test_imports_come_from_the_package(self):
        self.assertEqual(nodes(ast.Import), [])
        for name, node in nodes(ast.ImportFrom):
            with self.subTest(name=name, module=node.module):
                self.assertEqual(node.level, 0)
                self.assertRegex(node.module, r"^tasterow\.[a-z]+$")

    def test_only_listed_builtins(self):
        for name, node in nodes(ast.Name):
            if hasattr(builtins, node.id):
                with self.subTest(name=name, line=node.lineno):
                    self.assertIn(node.id, BUILTINS)
                    self.assertIsInstance(node.ctx, ast.Load)

    def test_no_local_name_hides_another(self):
        for name, text in sources():
            tree = ast.parse(text)
            outer = {node.name for node in tree.body if isinstance(node, (ast.FunctionDef, ast.ClassDef))}
            for node in tree.body:
                if isinstance(node, ast.ImportFrom):
                    outer.update([alias.asname or alias.name for alias in node.names])
            for node in ast.walk(tree):
                word = node.arg if isinstance(node, ast.arg) else ""
                if isinstance(node, ast.Name) and isinstance(node.ctx, ast.Store):
                    word = node.id
                with self.subTest(name=name, word=word):
                    self.assertNotIn(word, outer)
                    self.assertFalse(hasattr(builtins, word))

    def test_lazy_values_are_iterated_on_the_spot(self):
        for name, node in nodes(ast.Call):
            for part in node.args:
                if isinstance(part, ast.Call) and lazy(part):
                    with self.subTest(name=name, line=node.lineno):
                        self.assertIn(getattr(node.func, "id", ""), TAKES_LAZY)
        for name, node in nodes((ast.Assign, ast.Return)):
            with self.subTest(name=name, line=node.lineno):
                self.assertFalse(isinstance(node.value, ast.Call) and lazy(node.value))

    def test_lists_instead_of_generators(self):
        self.assertEqual(nodes((ast.GeneratorExp, ast.Yield, ast.YieldFrom)), [])

    def test_plain_names(self):
        for name, node in nodes((ast.Name, ast.arg, ast.Attribute)):
            word = [getattr(node, field) for field in ("id", "arg", "attr") if hasattr(node, field)][0]
            with self.subTest(name=name, word=word):
                self.assertRegex(word, r"^([A-Za-z]\w*|__init__)$")

    def test_no_fractions(self):
        self.assertEqual(nodes(ast.Div), [])
        for name, node in nodes(ast.Constant):
            with self.subTest(name=name, line=node.lineno):
                self.assertNotIsInstance(node.value, (float, complex))
                self.assertNotIn("%", str(node.value))


class Classes(unittest.TestCase):

    def test_listed_double_underscore_methods(self):
        for name, node in nodes(ast.FunctionDef):
            if node.name.startswith("_"):
                with self.subTest(name=name, function=node.name):
                    self.assertIn(node.name, ("__init__", "__eq__", "__str__", "__len__"))

    def test_no_name_is_a_method_and_an_attribute(self):
        self.assertEqual(own_methods() & stored_attributes(), set())

    def test_attributes_that_are_read_are_assigned(self):
        called = {id(node.func) for name, node in nodes(ast.Call)}
        for name, node in nodes(ast.Attribute):
            with self.subTest(name=name, line=node.lineno):
                if id(node) in called:
                    self.assertIn(node.attr, METHODS | own_methods())
                else:
                    self.assertIn(node.attr, stored_attributes())

    def test_no_stored_sets(self):
        # A class has the methods add and discard, so no stored set may use them.
        for name, node in nodes(ast.Assign):
            with self.subTest(name=name, line=node.lineno):
                self.assertNotIsInstance(node.value, (ast.Set, ast.SetComp))
                self.assertFalse(isinstance(node.value, ast.Call) and getattr(node.value.func, "id", "") == "set")

    def test_errors_are_created_where_they_are_raised(self):
        for name, node in nodes(ast.Raise):
            with self.subTest(name=name, line=node.lineno):
                if node.exc is not None:
                    self.assertIsInstance(node.exc, ast.Call)
                    self.assertIsInstance(node.exc.func, ast.Name)

    def test_only_own_errors_are_caught(self):
        defined = {node.name for name, node in nodes(ast.ClassDef)}
        for name, node in nodes(ast.ExceptHandler):
            with self.subTest(name=name, line=node.lineno):
                self.assertIn(getattr(node.type, "id", None), defined)
                self.assertIsNone(node.name)

    def test_double_underscore_methods_assign_nothing(self):
        for name, node in nodes(ast.FunctionDef):
            if node.name in ("__eq__", "__str__", "__len__"):
                with self.subTest(name=name, function=node.name):
                    found = [part for part in ast.walk(node) if isinstance(part, (ast.Assign, ast.AugAssign))]
                    self.assertEqual(found, [])
                    self.assertIsInstance(node.body[-1], ast.Return)


class Imports(unittest.TestCase):

    def test_names_come_from_the_files_that_define_them(self):
        defined = {}
        for name, text in sources():
            for node in ast.parse(text).body:
                words = [target.id for target in node.targets] if isinstance(node, ast.Assign) else []
                words += [node.name] if isinstance(node, (ast.FunctionDef, ast.ClassDef)) else []
                defined.setdefault(name, []).extend(words)
        for name, node in nodes(ast.ImportFrom):
            for alias in node.names:
                with self.subTest(name=name, word=alias.name):
                    self.assertIn(alias.name, defined[node.module.split(".")[1] + ".py"])
                    self.assertIsNone(alias.asname)

    def test_each_import_is_used(self):
        for name, text in sources():
            tree = ast.parse(text)
            used = {node.id for node in ast.walk(tree) if isinstance(node, ast.Name)}
            for node in tree.body:
                if isinstance(node, ast.ImportFrom):
                    with self.subTest(name=name, module=node.module):
                        self.assertLessEqual({alias.name for alias in node.names}, used)

    def test_no_two_files_import_from_each_other(self):
        wanted = {name[:-3]: set() for name, text in sources()}
        for name, node in nodes(ast.ImportFrom):
            wanted[name[:-3]].add(node.module.split(".")[1])
        # Files whose imports are all settled are taken away until none is left.
        while settled := [name for name in wanted if not wanted[name]]:
            wanted = {name: wanted[name] - set(settled) for name in wanted if name not in settled}
        self.assertEqual(wanted, {})
