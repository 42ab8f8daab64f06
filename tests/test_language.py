"""The package's files keep to the small part of Python that the program is written in, as far as is seen here."""

import ast
import builtins
import pathlib
import re
import unittest

PACKAGE = pathlib.Path(__file__).resolve().parent.parent / "strikeweave"
PYTHONS_OWN = set(
    "len range enumerate zip min max sum abs sorted reversed int str bool bytes list tuple dict set isinstance ord"
    " repr any all divmod Exception ValueError TypeError KeyError IndexError LookupError ZeroDivisionError"
    " ArithmeticError OverflowError RuntimeError NotImplementedError".split())
METHODS = set(
    "append clear copy count endswith extend find get index insert isalnum isalpha isdigit islower isspace isupper"
    " items join keys ljust lower lstrip partition pop remove replace reverse rfind rjust rpartition rsplit rstrip"
    " setdefault split splitlines startswith strip update upper values zfill bit_length add discard sort".split())
NODES = set(
    "Module Expr Constant ImportFrom alias FunctionDef ClassDef arguments arg Assign AugAssign If While For Return"
    " Break Continue Pass Raise Try ExceptHandler Assert Delete Name Load Store Del Attribute Subscript Slice Call"
    " keyword List Tuple Dict Set ListComp DictComp SetComp comprehension BinOp UnaryOp BoolOp Compare IfExp"
    " JoinedStr FormattedValue Lambda Starred And Or Not Add Sub Mult FloorDiv Mod Pow USub BitAnd BitOr BitXor"
    " LShift RShift Eq NotEq Lt LtE Gt GtE In NotIn Is IsNot".split())
NO_WORDS = (
    r"\b(type|typing|typing_extensions|enum|Enum|IntEnum|StrEnum|Flag|IntFlag|Generic|Protocol|ABC|ABCMeta|namedtuple"
    r"|NamedTuple|TypedDict|TYPE_CHECKING|abstractmethod)\b|dataclass|overload|contextmanager")
NO_NAMES = set("register mro elements open input version_info with_traceback add_note format format_map".split())


def files():
    return sorted(PACKAGE.glob("*.py"))


def walk():
    """All nodes of all files, each with its file's name."""
    for path in files():
        for node in ast.walk(ast.parse(path.read_text("ascii"))):
            yield path.name, node


def given_names(node):
    """The names that a node binds or asks of a thing."""
    if isinstance(node, ast.Name):
        return [node.id]
    if isinstance(node, ast.Attribute):
        return [node.attr]
    if isinstance(node, (ast.FunctionDef, ast.ClassDef)):
        return [node.name]
    if isinstance(node, ast.arg):
        return [node.arg]
    return []


class Language(unittest.TestCase):
    def test_files(self):
        self.assertIn("__init__.py", [path.name for path in files()])
        for path in PACKAGE.iterdir():
            if path.name != "__pycache__":
                self.assertRegex(path.name, r"\A(__init__|[a-z][a-z0-9_]*)\.py\Z")

    def test_signs_and_sizes(self):
        for path in files():
            rows = path.read_text("ascii").split("\n")
            self.assertLessEqual(len(rows), 400, path.name)
            for row in rows:
                self.assertRegex(row, r"\A[ -~]{0,120}\Z", path.name)
                self.assertIsNone(re.search(NO_WORDS, row), row)
        for name, node in walk():
            if isinstance(node, ast.FunctionDef):
                self.assertLessEqual(node.end_lineno - node.lineno + 1, 40, (name, node.name))

    def test_nodes(self):
        for name, node in walk():
            self.assertIn(type(node).__name__, NODES, (name, getattr(node, "lineno", None)))
            if isinstance(node, (ast.FunctionDef, ast.ClassDef)):
                self.assertEqual(node.decorator_list, [], name)
            if isinstance(node, (ast.For, ast.While)):
                self.assertEqual(node.orelse, [], name)
            if isinstance(node, ast.Constant):
                self.assertNotIsInstance(node.value, (float, complex), name)

    def test_imports(self):
        for name, node in walk():
            if isinstance(node, ast.ImportFrom):
                self.assertEqual(node.level, 0, name)
                self.assertRegex(node.module, r"\Astrikeweave\.[a-z]+\Z", name)
                self.assertNotEqual(name, "__init__.py", "it would be drawn from by all files")
                self.assertNotIn("*", [one.name for one in node.names], name)

    def test_names(self):
        for name, node in walk():
            for given in given_names(node):
                self.assertNotIn(given, NO_NAMES, name)
                if given not in ("__init__",):
                    self.assertRegex(given, r"\A[a-zA-Z][a-zA-Z0-9_]*\Z", name)
                if isinstance(node, ast.Name) and hasattr(builtins, given):
                    self.assertIn(given, PYTHONS_OWN, name)
                    self.assertIsInstance(node.ctx, ast.Load, name)
                if isinstance(node, ast.arg):
                    self.assertFalse(hasattr(builtins, given), (name, given))

    def test_no_local_bears_the_name_of_an_import_or_a_class(self):
        for path in files():
            tree = ast.parse(path.read_text("ascii"))
            taken = {one.name for one in tree.body if isinstance(one, ast.ClassDef)}
            taken |= {one.name for row in tree.body if isinstance(row, ast.ImportFrom) for one in row.names}
            for node in ast.walk(tree):
                if isinstance(node, ast.arg):
                    self.assertNotIn(node.arg, taken, path.name)
                if isinstance(node, ast.Name) and isinstance(node.ctx, ast.Store):
                    self.assertNotIn(node.id, taken, path.name)

    def test_no_two_files_draw_from_one_another(self):
        drawn = {}
        for path in files():
            rows = [one for one in ast.parse(path.read_text("ascii")).body if isinstance(one, ast.ImportFrom)]
            drawn[path.stem] = {row.module.split(".")[1] for row in rows}
        while drawn:
            free = [name for name in drawn if not drawn[name] & set(drawn)]
            self.assertNotEqual(free, [], "these draw from one another: " + " ".join(sorted(drawn)))
            for name in free:
                del drawn[name]

    def test_is_stands_beside_none_true_and_false_alone(self):
        for name, node in walk():
            if isinstance(node, ast.Compare) and isinstance(node.ops[0], (ast.Is, ast.IsNot)):
                self.assertIsInstance(node.comparators[0], ast.Constant, name)
                self.assertIn(node.comparators[0].value, (None, True, False), name)

    def test_sets_stand_in_their_places_alone(self):
        for name, node in walk():
            for below in ast.iter_child_nodes(node):
                called = isinstance(below, ast.Call) and isinstance(below.func, ast.Name) and below.func.id == "set"
                if not called and not isinstance(below, (ast.Set, ast.SetComp)):
                    continue
                counted = isinstance(node, ast.Call) and isinstance(node.func, ast.Name) and not node.keywords
                kept = isinstance(node, ast.Assign) and isinstance(node.targets[0], ast.Name)
                asked = isinstance(node, ast.Compare)
                self.assertTrue(kept or asked or counted and node.func.id in ("len", "sorted"), (name, node.lineno))

    def test_methods_and_values(self):
        methods, values, asked = set(), set(), set()
        for name, node in walk():
            if isinstance(node, ast.ClassDef):
                methods |= {one.name for one in node.body if isinstance(one, ast.FunctionDef)}
            if isinstance(node, ast.Attribute):
                (values if isinstance(node.ctx, ast.Store) else asked).add(node.attr)
        self.assertEqual(methods & values, set())
        self.assertLessEqual(asked, methods | values | METHODS)


if __name__ == "__main__":
    unittest.main()
