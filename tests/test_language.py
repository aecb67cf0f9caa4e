"""The package keeps to the small part of Python that it is to be written in (what of it a walk of the tree can see)."""

import ast
import builtins
import pathlib
import re
import unittest

PACKAGE = pathlib.Path(__file__).resolve().parent.parent / "notring"

NODES = """Module FunctionDef ClassDef arguments arg Expr Assign AugAssign If While For Return Break Continue Pass Raise
Try ExceptHandler Import ImportFrom alias Constant Name Attribute Subscript Slice List Tuple Dict Set BinOp UnaryOp
BoolOp Compare IfExp Call keyword ListComp comprehension Lambda JoinedStr FormattedValue Load Store Add Sub Mult
FloorDiv Mod Pow BitAnd BitOr BitXor LShift RShift Invert USub UAdd Not And Or Eq NotEq Lt LtE Gt GtE Is IsNot In
NotIn""".split()

BUILT_IN = """len range enumerate zip min max sum abs sorted reversed int str bool list tuple dict set frozenset
isinstance ord repr any all divmod Exception ValueError TypeError KeyError IndexError LookupError ZeroDivisionError
ArithmeticError OverflowError RuntimeError NotImplementedError AttributeError StopIteration""".split()

METHODS = """append clear copy count endswith extend find get index insert isalnum isalpha isdigit islower isspace
isupper items join keys ljust lower lstrip partition pop remove replace reverse rfind rjust rpartition rsplit rstrip
setdefault split splitlines startswith strip update upper values zfill bit_length""".split()

OWN_DUNDERS = ["__init__", "__eq__", "__repr__", "__str__", "__len__"]

UNUSED = """register mro elements open input version_info with_traceback add_note attrgetter breakpoint builtins compile
copyright credits delattr dir eval exec exit gc getattr globals hasattr help id importlib license locals methodcaller os
quit setattr super type vars sys format format_map""".split()

UNSAID = re.compile(r"\b(type|typing|typing_extensions|enum|Enum|IntEnum|StrEnum|Flag|IntFlag|Generic|Protocol|ABC"
                    r"|ABCMeta|namedtuple|NamedTuple|TypedDict|TYPE_CHECKING|abstractmethod)\b"
                    r"|dataclass|overload|contextmanager")


def files():
    return sorted(PACKAGE.glob("*.py"))


def trees():
    return [(path.name, ast.parse(path.read_text())) for path in files()]


def nodes():
    return [(name, node) for name, tree in trees() for node in ast.walk(tree)]


def bound_names(node):
    """The names that the node gives, each as a text."""
    if isinstance(node, (ast.FunctionDef, ast.ClassDef)):
        return [node.name]
    if isinstance(node, ast.arg):
        return [node.arg]
    if isinstance(node, ast.Name) and isinstance(node.ctx, ast.Store):
        return [node.id]
    if isinstance(node, ast.Attribute) and isinstance(node.ctx, ast.Store):
        return [node.attr]
    return []


WALKED = ("zip", "enumerate", "reversed", "range", "items", "keys", "values")
TAKERS = ("list", "tuple", "dict", "sorted", "sum", "any", "all", "enumerate", "zip", "min", "max", "join")


def called(node):
    """The name of what the node calls, if it is a call."""
    if not isinstance(node, ast.Call):
        return None
    return node.func.attr if isinstance(node.func, ast.Attribute) else node.func.id


def with_outer(tree):
    """Tuples of a node and one that stands straight in it."""
    return [(outer, node) for outer in ast.walk(tree) for node in ast.iter_child_nodes(outer)]


class Language(unittest.TestCase):
    def test_files(self):
        self.assertIn("__init__.py", [path.name for path in files()])
        for path in PACKAGE.iterdir():
            if path.name != "__pycache__":
                self.assertRegex(path.name, r"^(__init__|[a-z][a-z0-9_]*)\.py$")

    def test_signs_words_and_sizes(self):
        for path in files():
            text = path.read_text()
            self.assertEqual([sign for sign in text if sign != "\n" and not " " <= sign <= "~"], [], path.name)
            self.assertIsNone(UNSAID.search(text), path.name)
            self.assertLessEqual(len(text.splitlines()), 400, path.name)
            self.assertLessEqual(max([len(line) for line in text.splitlines()]), 120, path.name)
        for name, node in nodes():
            if isinstance(node, ast.FunctionDef):
                self.assertLessEqual(node.end_lineno - node.lineno + 1, 40, (name, node.name))

    def test_statements_and_expressions(self):
        for name, node in nodes():
            place = (name, getattr(node, "lineno", None))
            self.assertIn(node.__class__.__name__, NODES, place)
            if isinstance(node, (ast.For, ast.While)):
                self.assertEqual(node.orelse, [], place)
            if isinstance(node, ast.Try):
                self.assertEqual(node.finalbody, [], place)
            if isinstance(node, ast.Assign):
                self.assertEqual(len(node.targets), 1, place)
            if isinstance(node, ast.ListComp):
                self.assertEqual(len(node.generators), 1, place)
                self.assertLessEqual(len(node.generators[0].ifs), 1, place)
            if isinstance(node, (ast.FunctionDef, ast.ClassDef)):
                self.assertEqual(node.decorator_list, [], place)
            if isinstance(node, ast.Constant):
                self.assertIn(node.value.__class__, (int, str, bool, None.__class__), place)
                self.assertFalse(isinstance(node.value, str) and chr(37) in node.value, place)

    def test_names(self):
        for name, node in nodes():
            place = (name, getattr(node, "lineno", None))
            for bound in bound_names(node):
                if bound not in OWN_DUNDERS:
                    self.assertRegex(bound, r"^[A-Za-z][A-Za-z0-9_]*$", place)
            if isinstance(node, ast.Name):
                self.assertFalse(hasattr(builtins, node.id) and node.id not in BUILT_IN, (place, node.id))
                self.assertNotIn(node.id, UNUSED, place)
                if not isinstance(node.ctx, ast.Load):
                    self.assertFalse(hasattr(builtins, node.id), (place, node.id))
            if isinstance(node, ast.arg):
                self.assertFalse(hasattr(builtins, node.arg), (place, node.arg))

    def test_methods_and_values(self):
        own = [bound for _, node in nodes() for bound in bound_names(node)]
        for name, node in nodes():
            if isinstance(node, ast.Attribute):
                self.assertIn(node.attr, METHODS + own, (name, node.lineno))
                self.assertNotIn(node.attr, UNUSED, (name, node.lineno))

    def test_no_name_is_a_method_and_a_value(self):
        methods = [node.name for _, top in nodes() if isinstance(top, ast.ClassDef) for node in top.body
                   if isinstance(node, ast.FunctionDef)]
        values = [node.attr for _, node in nodes() if isinstance(node, ast.Attribute)
                  and isinstance(node.ctx, ast.Store)]
        self.assertEqual(set(methods) & set(values), set())

    def test_imports(self):
        defined = {"notring." + name[:-3]: [bound for top in tree.body for node in [top] + getattr(top, "targets", [])
                                            for bound in bound_names(node)] for name, tree in trees()}
        drawn = {}
        for name, tree in trees():
            rows = [node for node in ast.walk(tree) if isinstance(node, (ast.Import, ast.ImportFrom))]
            drawn["notring." + name[:-3]] = [row.module for row in rows]
            for row in rows:
                self.assertIn(row, tree.body, name)
                self.assertTrue(isinstance(row, ast.ImportFrom) and row.level == 0, name)
                for alias in row.names:
                    self.assertIn(alias.name, defined[row.module], name)
        self.assert_no_ring(drawn)

    def test_the_top_of_a_file(self):
        for name, tree in trees():
            self.assertIsNotNone(ast.get_docstring(tree), name)
            for node in tree.body[1:]:
                self.assertIsInstance(node, (ast.ImportFrom, ast.FunctionDef, ast.ClassDef, ast.Assign),
                                      (name, node.lineno))
                if isinstance(node, ast.Assign):
                    ast.literal_eval(node.value)

    def test_is_stands_beside_none_true_and_false(self):
        for name, node in nodes():
            if isinstance(node, ast.Compare) and any(isinstance(sign, (ast.Is, ast.IsNot)) for sign in node.ops):
                sides = [side.value for side in [node.left] + node.comparators if isinstance(side, ast.Constant)]
                self.assertTrue(any(value in (None, True, False) for value in sides), (name, node.lineno))

    def test_what_is_walked_on_the_spot(self):
        for name, tree in trees():
            for outer, node in with_outer(tree):
                if called(node) in WALKED:
                    place = (name, node.lineno)
                    if isinstance(outer, (ast.For, ast.comprehension)):
                        self.assertIs(outer.iter, node, place)
                    else:
                        self.assertIn(called(outer), TAKERS, place)
                        self.assertIs(outer.args[0], node, place)

    def test_sets_are_not_kept(self):
        for name, tree in trees():
            for outer, node in with_outer(tree):
                if called(node) in ("set", "frozenset") or isinstance(node, ast.Set):
                    self.assertTrue(called(outer) in ("sorted", "len") or isinstance(outer, (ast.Compare, ast.BinOp)),
                                    (name, node.lineno))

    def test_no_loop_changes_what_it_walks(self):
        changes = ("append", "clear", "extend", "insert", "pop", "remove", "reverse", "setdefault", "update")
        for name, node in nodes():
            if isinstance(node, ast.For):
                walked = [ast.unparse(node.iter)] + [ast.unparse(part) for part in getattr(node.iter, "args", [])]
                for inner in ast.walk(node):
                    if isinstance(inner, ast.Call) and isinstance(inner.func,
                                                                  ast.Attribute) and inner.func.attr in changes:
                        self.assertNotIn(ast.unparse(inner.func.value), walked, (name, inner.lineno))
                    if isinstance(inner, ast.Subscript) and isinstance(inner.ctx, ast.Store):
                        self.assertNotIn(ast.unparse(inner.value), walked, (name, inner.lineno))

    def test_powers_and_keywords(self):
        allowed = {"sorted": ["key", "reverse"], "min": ["key", "default"], "max": ["key", "default"], "sum": ["start"],
                   "enumerate": ["start"], "zip": ["strict"]}
        for name, node in nodes():
            self.assertFalse(isinstance(getattr(node, "op", None), ast.Pow), name)
            if isinstance(node, ast.Call):
                for keyword in node.keywords:
                    self.assertIn(keyword.arg, allowed.get(called(node), []), (name, node.lineno))

    def test_locals_are_not_called_like_what_stands_at_the_top(self):
        for name, tree in trees():
            top = [bound for node in tree.body for bound in bound_names(node)]
            top += [alias.asname or alias.name for node in tree.body if isinstance(node, ast.ImportFrom)
                    for alias in node.names]
            for function in ast.walk(tree):
                if isinstance(function, ast.FunctionDef):
                    inner = [bound for node in ast.walk(function) if isinstance(node, (ast.arg, ast.Name))
                             for bound in bound_names(node)]
                    self.assertEqual(set(inner) & set(top), set(), (name, function.name))

    def test_errors_are_made_on_the_spot_and_the_program_takes_none(self):
        for name, node in nodes():
            self.assertNotIsInstance(node, ast.Try, name)
            if isinstance(node, ast.Raise):
                self.assertIsInstance(node.exc, ast.Call, (name, node.lineno))

    def test_methods_with_two_underscores(self):
        for name, node in nodes():
            if isinstance(node, ast.FunctionDef) and node.name.startswith("__"):
                self.assertEqual(node.name, "__init__", name)
                self.assertEqual([inner for inner in ast.walk(node) if isinstance(inner, ast.Return)], [], name)

    def assert_no_ring(self, drawn):
        """Takes away the files that draw from none that is left, till all are gone."""
        while drawn:
            free = [name for name in drawn if not set(drawn[name]) & set(drawn)]
            self.assertNotEqual(free, [], drawn)
            drawn = {name: drawn[name] for name in drawn if name not in free}


if __name__ == "__main__":
    unittest.main()
