"""The package keeps to the small part of Python that it is to be written in (what of it a walk of the tree can see)."""

import ast
import builtins
import pathlib
import re
import unittest

PACKAGE = pathlib.Path(__file__).resolve().parent.parent / "notring"

NODES = """Module FunctionDef ClassDef arguments arg Expr Assign AugAssign If While For Return Break Continue Pass Raise
Try ExceptHandler Import ImportFrom alias Constant Name Attribute Subscript Slice List Tuple Dict Set BinOp UnaryOp
BoolOp Compare IfExp Call keyword ListComp comprehension Lambda JoinedStr FormattedValue Load Store Add Sub Mult
FloorDiv Mod Pow BitAnd BitOr BitXor LShift RShift Invert USub UAdd Not And Or Eq NotEq Lt LtE Gt GtE Is IsNot In
NotIn""".split()

BUILT_IN = """len range enumerate zip min max sum abs sorted reversed int str bool list tuple dict set frozenset
isinstance ord repr any all divmod Exception ValueError TypeError KeyError IndexError LookupError ZeroDivisionError
ArithmeticError OverflowError RuntimeError NotImplementedError AttributeError StopIteration""".split()

METHODS = """append clear copy count endswith extend find get index insert isalnum isalpha isdigit islower isspace
isupper items join keys ljust lower lstrip partition pop remove replace reverse rfind rjust rpartition rsplit rstrip
setdefault split splitlines startswith strip update upper values zfill bit_length""".split()

OWN_DUNDERS = ["__init__", "__eq__", "__repr__", "__str__", "__len__"]

UNUSED = """register mro elements open input version_info with_traceback add_note attrgetter breakpoint builtins compile
copyright credits delattr dir eval exec exit gc getattr globals hasattr help id importlib license locals methodcaller os
quit setattr super type vars sys format format_map""".split()

UNSAID = re.compile(r"\b(type|typing|typing_extensions|enum|Enum|IntEnum|StrEnum|Flag|IntFlag|Generic|Protocol|ABC|ABCMeta"
                    r"|namedtuple|NamedTuple|TypedDict|TYPE_CHECKING|abstractmethod)\b|dataclass|overload|contextmanager")


def files():
    return sorted(PACKAGE.glob("*.py"))


def trees():
    return [(path.name, ast.parse(path.read_text())) for path in files()]


def nodes():
    return [(name, node) for name, tree in trees() for node in ast.walk(tree)]


def bound_names(node):
    """The names that the node gives, each as a text."""
    if isinstance(node, (ast.FunctionDef, ast.ClassDef)):
        return [node.name]
    if isinstance(node, ast.arg):
        return [node.arg]
    if isinstance(node, ast.Name) and isinstance(node.ctx, ast.Store):
        return [node.id]
    if isinstance(node, ast.Attribute) and isinstance(node.ctx, ast.Store):
        return [node.attr]
    return []


class Language(unittest.TestCase):
    def test_files(self):
        self.assertIn("__init__.py", [path.name for path in files()])
        for path in PACKAGE.iterdir():
            if path.name != "__pycache__":
                self.assertRegex(path.name, r"^(__init__|[a-z][a-z0-9_]*)\.py$")

    def test_signs_words_and_sizes(self):
        for path in files():
            text = path.read_text()
            self.assertEqual([sign for sign in text if sign != "\n" and not " " <= sign <= "~"], [], path.name)
            self.assertIsNone(UNSAID.search(text), path.name)
            self.assertLessEqual(len(text.splitlines()), 400, path.name)
            self.assertLessEqual(max([len(line) for line in text.splitlines()]), 120, path.name)
        for name, node in nodes():
            if isinstance(node, ast.FunctionDef):
                self.assertLessEqual(node.end_lineno - node.lineno + 1, 40, (name, node.name))

    def test_statements_and_expressions(self):
        for name, node in nodes():
            place = (name, getattr(node, "lineno", None))
            self.assertIn(node.__class__.__name__, NODES, place)
            if isinstance(node, (ast.For, ast.While)):
                self.assertEqual(node.orelse, [], place)
            if isinstance(node, ast.Try):
                self.assertEqual(node.finalbody, [], place)
            if isinstance(node, ast.Assign):
                self.assertEqual(len(node.targets), 1, place)
            if isinstance(node, ast.ListComp):
                self.assertEqual(len(node.generators), 1, place)
                self.assertLessEqual(len(node.generators[0].ifs), 1, place)
            if isinstance(node, (ast.FunctionDef, ast.ClassDef)):
                self.assertEqual(node.decorator_list, [], place)
            if isinstance(node, ast.Constant):
                self.assertIn(node.value.__class__, (int, str, bool, None.__class__), place)
                self.assertFalse(isinstance(node.value, str) and chr(37) in node.value, place)

    def test_names(self):
        for name, node in nodes():
            place = (name, getattr(node, "lineno", None))
            for bound in bound_names(node):
                if bound not in OWN_DUNDERS:
                    self.assertRegex(bound, r"^[A-Za-z][A-Za-z0-9_]*$", place)
            if isinstance(node, ast.Name):
                self.assertFalse(hasattr(builtins, node.id) and node.id not in BUILT_IN, (place, node.id))
                self.assertNotIn(node.id, UNUSED, place)
                if not isinstance(node.ctx, ast.Load):
                    self.assertFalse(hasattr(builtins, node.id), (place, node.id))
            if isinstance(node, ast.arg):
                self.assertFalse(hasattr(builtins, node.arg), (place, node.arg))

    def test_methods_and_values(self):
        own = [bound for _, node in nodes() for bound in bound_names(node)]
        for name, node in nodes():
            if isinstance(node, ast.Attribute):
                self.assertIn(node.attr, METHODS + own, (name, node.lineno))
                self.assertNotIn(node.attr, UNUSED, (name, node.lineno))

    def test_no_name_is_a_method_and_a_value(self):
        methods = [node.name for _, top in nodes() if isinstance(top, ast.ClassDef) for node in top.body
                   if isinstance(node, ast.FunctionDef)]
        values = [node.attr for _, node in nodes() if isinstance(node, ast.Attribute) and isinstance(node.ctx, ast.Store)]
        self.assertEqual(set(methods) & set(values), set())

    def test_imports(self):
        defined = {"notring." + name[:-3]: [bound for top in tree.body for node in [top] + getattr(top, "targets", [])
                                            for bound in bound_names(node)] for name, tree in trees()}
        drawn = {}
        for name, tree in trees():
            rows = [node for node in ast.walk(tree) if isinstance(node, (ast.Import, ast.ImportFrom))]
            drawn["notring." + name[:-3]] = [row.module for row in rows]
            for row in rows:
                self.assertIn(row, tree.body, name)
                self.assertTrue(isinstance(row, ast.ImportFrom) and row.level == 0, name)
                for alias in row.names:
                    self.assertIn(alias.name, defined[row.module], name)
        self.assert_no_ring(drawn)

    def assert_no_ring(self, drawn):
        """Takes away the files that draw from none that is left, till all are gone."""
        while drawn:
            free = [name for name in drawn if not set(drawn[name]) & set(drawn)]
            self.assertNotEqual(free, [], drawn)
            drawn = {name: drawn[name] for name in drawn if name not in free}


if __name__ == "__main__":
    unittest.main()
