"""The part of Python that the package keeps to, as far as its rules can be seen plainly."""

import ast
import builtins
import pathlib
import re
import unittest

PACKAGE = pathlib.Path(__file__).resolve().parent.parent / "linkorcut"
FILES = sorted(PACKAGE.glob("*.py"))

NODES = (
    "Module FunctionDef ClassDef arguments arg keyword Return Assign AugAssign For While If Raise Try ExceptHandler "
    "ImportFrom alias Expr Pass Break Continue BoolOp BinOp UnaryOp Lambda IfExp Dict Set ListComp comprehension "
    "Compare Call FormattedValue JoinedStr Constant Attribute Subscript Name List Tuple Slice Load Store "
    "And Or Add Sub Mult Mod Pow LShift RShift BitOr BitXor BitAnd FloorDiv Invert Not UAdd USub "
    "Eq NotEq Lt LtE Gt GtE Is IsNot In NotIn").split()
OWN_NAMES = (
    "len range enumerate zip min max sum abs sorted reversed int str bool list tuple dict set isinstance ord repr "
    "any all divmod Exception ValueError TypeError KeyError IndexError LookupError ZeroDivisionError "
    "ArithmeticError OverflowError RuntimeError NotImplementedError StopIteration").split()
METHODS = (
    "append clear copy count endswith extend find get index insert isalnum isalpha isdigit islower isspace isupper "
    "items join keys ljust lower lstrip partition pop remove replace reverse rfind rjust rpartition rsplit rstrip "
    "setdefault split splitlines startswith strip update upper values zfill bit_length").split()
KEYWORDS = {
    "sorted": ("key", "reverse"), "min": ("key", "default"), "max": ("key", "default"), "sum": ("start",),
    "enumerate": ("start",), "zip": ("strict",)}
DUNDERS = ["__init__", "__eq__", "__repr__", "__str__", "__len__"]
WORDS = re.compile(
    r"\b(type|typing|typing_extensions|enum|Enum|IntEnum|StrEnum|Flag|IntFlag|Generic|Protocol|ABC|ABCMeta|"
    r"namedtuple|NamedTuple|TypedDict|TYPE_CHECKING|abstractmethod)\b|dataclass|overload|contextmanager")


def walked():
    """Each file's name with each node of it."""
    for path in FILES:
        for node in ast.walk(ast.parse(path.read_text())):
            yield path.name, node


def bound(path):
    """The names that a file's top defines."""
    names = []
    for node in ast.parse(path.read_text()).body:
        if isinstance(node, (ast.FunctionDef, ast.ClassDef)):
            names.append(node.name)
        if isinstance(node, ast.Assign):
            names.append(node.targets[0].id)
    return names


def drawn_from(path):
    """The names of the files that a file imports from."""
    body = ast.parse(path.read_text()).body
    return [node.module.split(".")[1] + ".py" for node in body if isinstance(node, ast.ImportFrom)]


def own_methods():
    """The names of all methods of the package's classes."""
    names = []
    for name, node in walked():
        if isinstance(node, ast.ClassDef):
            names.extend(each.name for each in node.body if isinstance(each, ast.FunctionDef))
    return names


class Language(unittest.TestCase):

    def test_files(self):
        self.assertIn(PACKAGE / "__init__.py", FILES)
        for path in PACKAGE.iterdir():
            if path.name != "__pycache__":
                self.assertRegex(path.name, r"^(__init__|__main__|[a-z][a-z0-9_]*)\.py$")

    def test_signs_and_sizes(self):
        for path in FILES:
            text = path.read_bytes().decode("ascii")
            self.assertRegex(text, r"\A[ -~\n]*\Z", path.name)
            self.assertIsNone(WORDS.search(text), path.name)
            rows = text.splitlines()
            self.assertLessEqual(len(rows), 400, path.name)
            self.assertLessEqual(max(len(row) for row in rows), 120, path.name)

    def test_nodes(self):
        for name, node in walked():
            where = (name, getattr(node, "lineno", 0), node.__class__.__name__)
            self.assertIn(node.__class__.__name__, NODES, where)
            if isinstance(node, (ast.For, ast.While)):
                self.assertEqual(node.orelse, [], where)
            if isinstance(node, ast.Try):
                self.assertEqual(node.finalbody, [], where)
            if isinstance(node, ast.Assign):
                self.assertEqual(len(node.targets), 1, where)
            if isinstance(node, ast.Constant):
                self.assertIn(node.value.__class__, (int, str, bool, type(None)), where)

    def test_defs(self):
        for name, node in walked():
            if isinstance(node, (ast.FunctionDef, ast.ClassDef)):
                where = (name, node.lineno)
                self.assertEqual(node.decorator_list, [], where)
                self.assertTrue(not node.name.startswith("_") or node.name in DUNDERS, where)
            if isinstance(node, ast.FunctionDef):
                self.assertLessEqual(node.end_lineno - node.lineno + 1, 40, where)
                given = node.args
                self.assertFalse(given.vararg or given.kwarg or given.kwonlyargs or given.posonlyargs, where)

    def test_names(self):
        for name, node in walked():
            if isinstance(node, ast.Name):
                where = (name, node.lineno, node.id)
                self.assertFalse(node.id.startswith("_"), where)
                if isinstance(node.ctx, ast.Store):
                    self.assertFalse(hasattr(builtins, node.id), where)
                elif hasattr(builtins, node.id):
                    self.assertIn(node.id, OWN_NAMES, where)

    def test_keywords(self):
        for name, node in walked():
            if isinstance(node, ast.Call):
                allowed = KEYWORDS.get(getattr(node.func, "id", None), ())
                for each in node.keywords:
                    self.assertIn(each.arg, allowed, (name, node.lineno))

    def test_imports(self):
        for name, node in walked():
            if isinstance(node, ast.ImportFrom):
                where = (name, node.lineno)
                self.assertEqual(node.level, 0, where)
                self.assertRegex(node.module, r"^linkorcut\.[a-z_]+$", where)
                defined = bound(PACKAGE / (node.module.split(".")[1] + ".py"))
                for each in node.names:
                    self.assertIsNone(each.asname, where)
                    self.assertIn(each.name, defined, where)

    def test_no_two_files_draw_from_one_another(self):
        for path in FILES:
            met = drawn_from(path)
            for name in met:
                met.extend(each for each in drawn_from(PACKAGE / name) if each not in met)
            self.assertNotIn(path.name, met)

    def test_no_local_is_called_like_an_import(self):
        for path in FILES:
            tree = ast.parse(path.read_text())
            brought = [each.name for node in tree.body if isinstance(node, ast.ImportFrom) for each in node.names]
            for node in ast.walk(tree):
                if isinstance(node, ast.Name) and isinstance(node.ctx, ast.Store):
                    self.assertNotIn(node.id, brought, (path.name, node.lineno))
                if isinstance(node, ast.arg):
                    self.assertNotIn(node.arg, brought, (path.name, node.lineno))
                    self.assertFalse(hasattr(builtins, node.arg), (path.name, node.lineno))

    def test_methods_and_values(self):
        own = own_methods()
        for name, node in walked():
            if isinstance(node, ast.Call) and isinstance(node.func, ast.Attribute):
                self.assertIn(node.func.attr, METHODS + own, (name, node.lineno))
            if isinstance(node, ast.Attribute) and isinstance(node.ctx, ast.Store):
                self.assertNotIn(node.attr, METHODS + own, (name, node.lineno))

    def test_is_stands_beside_none_and_truths(self):
        for name, node in walked():
            if isinstance(node, ast.Compare):
                for sign, beside in zip(node.ops, node.comparators):
                    if isinstance(sign, (ast.Is, ast.IsNot)):
                        self.assertIsInstance(beside, ast.Constant, (name, node.lineno))
                        self.assertIn(beside.value, (None, True, False), (name, node.lineno))


if __name__ == "__main__":
    unittest.main()
