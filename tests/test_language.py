"""Holds the package to the part of Python that it keeps to, as far as a look at its files can tell."""

import ast
import builtins
import re
import unittest
from pathlib import Path

PACKAGE = Path(__file__).resolve().parent.parent / "dykelengths"
FILES = sorted(PACKAGE.glob("*.py"))

OWN_NAMES = set(
    "len range enumerate zip min max sum abs sorted reversed int str bool bytes list tuple dict set frozenset isinstance"
    " ord repr any all divmod Exception ValueError TypeError KeyError IndexError LookupError ZeroDivisionError"
    " ArithmeticError OverflowError RuntimeError NotImplementedError AttributeError StopIteration".split()
)
METHODS = set(
    "append clear copy count endswith extend find get index insert isalnum isalpha isdigit islower isspace isupper items"
    " join keys ljust lower lstrip partition pop remove replace reverse rfind rjust rpartition rsplit rstrip setdefault"
    " split splitlines startswith strip update upper values zfill bit_length add discard sort".split()
)
NODES = set(
    "Module FunctionDef ClassDef arguments arg Return Assign AugAssign Delete For While If Raise Try Assert ImportFrom"
    " alias Expr Pass Break Continue ExceptHandler BoolOp And Or BinOp Add Sub Mult FloorDiv Mod Pow LShift RShift BitOr"
    " BitXor BitAnd UnaryOp Not USub Invert Lambda IfExp Dict Set ListComp DictComp SetComp comprehension Compare Eq"
    " NotEq Lt LtE Gt GtE Is IsNot In NotIn Call keyword FormattedValue JoinedStr Constant Attribute Subscript Slice"
    " Starred Name List Tuple Load Store Del".split()
)
BARRED_WORDS = re.compile(
    r"\b(type|typing|typing_extensions|enum|Enum|IntEnum|StrEnum|Flag|IntFlag|Generic|Protocol|ABC|ABCMeta|namedtuple"
    r"|NamedTuple|TypedDict|TYPE_CHECKING|abstractmethod)\b|dataclass|overload|contextmanager"
)
DUNDERS = {"__init__", "__eq__", "__repr__", "__str__", "__len__"}
TREES = [(path.name, ast.parse(path.read_text())) for path in FILES]


def nodes(kind):
    return [(name, node) for name, tree in TREES for node in ast.walk(tree) if isinstance(node, kind)]


def top_names(tree, drawn_too=True):
    told = []
    for node in tree.body:
        if isinstance(node, (ast.FunctionDef, ast.ClassDef)):
            told.append(node.name)
        if isinstance(node, ast.Assign):
            told += [target.id for target in node.targets]
        if drawn_too and isinstance(node, ast.ImportFrom):
            told += [alias.asname or alias.name for alias in node.names]
    return told


def drawn():
    """For each module, the modules that it draws from."""
    return {
        name[:-3]: {node.module.split(".")[1] for node in tree.body if isinstance(node, ast.ImportFrom)}
        for name, tree in TREES
    }


class Language(unittest.TestCase):
    def test_files(self):
        for path in PACKAGE.iterdir():
            if path.name != "__pycache__":
                self.assertRegex(path.name, r"^(__init__|[a-z][a-z0-9_]*)\.py$")

    def test_signs_and_sizes(self):
        for path in FILES:
            text = path.read_text()
            lines = text.splitlines()
            self.assertLessEqual(len(lines), 400, path.name)
            for at, line in enumerate(lines):
                self.assertLessEqual(len(line), 120, (path.name, at + 1))
            self.assertRegex(text, r"\A[\n -~]*\Z", path.name)
            self.assertIsNone(BARRED_WORDS.search(text), path.name)
        for name, node in nodes(ast.FunctionDef):
            self.assertLessEqual(node.end_lineno - node.lineno + 1, 40, (name, node.name))

    def test_forms(self):
        for name, node in nodes(ast.AST):
            self.assertIn(node.__class__.__name__, NODES, (name, getattr(node, "lineno", None)))
        for name, node in nodes(ast.Constant):
            self.assertIn(node.value.__class__, (int, str, bytes, bool, None.__class__), (name, node.lineno))
            if isinstance(node.value, str):
                self.assertNotIn("%", node.value, (name, node.lineno))

    def test_is_stands_beside_plain_values(self):
        for name, node in nodes(ast.Compare):
            for sign, right in zip(node.ops, node.comparators):
                if isinstance(sign, (ast.Is, ast.IsNot)):
                    self.assertIn(getattr(right, "value", 0), (None, True, False), (name, node.lineno))

    def test_defs_and_classes(self):
        for name, node in nodes(ast.FunctionDef):
            self.assertFalse(node.decorator_list or node.args.vararg or node.args.kwarg or node.args.posonlyargs)
        for name, node in nodes(ast.ClassDef):
            self.assertLessEqual(len(node.bases), 1, node.name)
            self.assertFalse(node.decorator_list or node.keywords, node.name)

    def test_names(self):
        told = [(name, node.id) for name, node in nodes(ast.Name)]
        told += [(name, node.arg) for name, node in nodes(ast.arg)]
        told += [(name, node.attr) for name, node in nodes(ast.Attribute)]
        told += [(name, node.name) for name, node in nodes((ast.FunctionDef, ast.ClassDef))]
        for name, word in told:
            if word not in DUNDERS:
                self.assertRegex(word, r"^[A-Za-z][A-Za-z0-9_]*$", name)

    def test_names_of_pythons_own(self):
        for name, node in nodes(ast.Name):
            if hasattr(builtins, node.id):
                self.assertIn(node.id, OWN_NAMES, (name, node.lineno))
                self.assertIsInstance(node.ctx, ast.Load, (name, node.lineno))
        for name, node in nodes(ast.arg):
            self.assertFalse(hasattr(builtins, node.arg), (name, node.arg))

    def test_locals_are_not_called_as_the_top(self):
        for name, tree in TREES:
            top = top_names(tree)
            self.assertEqual(len(top), len(set(top)), name)
            for node in [inner for outer in tree.body for inner in ast.walk(outer) if outer is not inner]:
                given = getattr(node, "arg", None)
                if isinstance(node, ast.Name) and isinstance(node.ctx, ast.Store):
                    given = node.id
                if given in top:
                    self.assertIn(node, [target for row in tree.body for target in getattr(row, "targets", [])], given)

    def test_methods_and_values(self):
        methods = {node.name for name, tree in nodes(ast.ClassDef) for node in tree.body
                   if isinstance(node, ast.FunctionDef)}
        values = {node.attr for name, node in nodes(ast.Attribute) if isinstance(node.ctx, ast.Store)}
        self.assertEqual(methods & values, set())
        for name, node in nodes(ast.Attribute):
            self.assertIn(node.attr, METHODS | methods | values, (name, node.lineno))

    def test_imports(self):
        defined = {name[:-3]: top_names(tree, drawn_too=False) for name, tree in TREES}
        for name, node in nodes(ast.ImportFrom):
            package, module = node.module.split(".")
            self.assertEqual((package, node.level), ("dykelengths", 0), name)
            for alias in node.names:
                self.assertIn(alias.name, defined[module], name)

    def test_no_files_draw_from_one_another(self):
        left = drawn()
        while left:
            free = [module for module, others in left.items() if not others & set(left)]
            self.assertTrue(free, sorted(left))
            for module in free:
                left.pop(module)
