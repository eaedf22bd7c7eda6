"""Holds the package's files to those rules of LANGUAGE.md that a short look at the tree can see."""

import ast
import builtins
import pathlib
import re
import unittest

PACKAGE = pathlib.Path(__file__).resolve().parent.parent / "pollproof"

FORMS = tuple(getattr(ast, name) for name in """
    Module FunctionDef arguments arg ClassDef Return Assign AugAssign For While If Raise Try ExceptHandler Expr Pass
    Break Continue ImportFrom alias BoolOp BinOp UnaryOp Lambda IfExp Dict Set List Tuple ListComp comprehension
    Compare Call keyword JoinedStr FormattedValue Constant Attribute Subscript Slice Name expr_context boolop unaryop
    cmpop Add Sub Mult FloorDiv Mod Pow LShift RShift BitOr BitXor BitAnd
""".split())

OWN_NAMES = """
    len range enumerate zip min max sum abs sorted reversed int str bool list tuple dict set frozenset isinstance ord
    repr any all divmod Exception ValueError TypeError KeyError IndexError LookupError ZeroDivisionError
    ArithmeticError OverflowError RuntimeError NotImplementedError AttributeError StopIteration
""".split()

DOUBLE = ["__init__", "__eq__", "__repr__", "__str__", "__len__"]

WORDS_OUT = re.compile(
    r"\b(type|typing|typing_extensions|enum|Enum|IntEnum|StrEnum|Flag|IntFlag|Generic|Protocol|ABC|ABCMeta|namedtuple"
    r"|NamedTuple|TypedDict|TYPE_CHECKING|abstractmethod)\b|dataclass|overload|contextmanager"
)

METHODS = """
    append clear copy count endswith extend find get index insert isalnum isalpha isdigit islower isspace isupper items
    join keys ljust lower lstrip partition pop remove replace reverse rfind rjust rpartition rsplit rstrip setdefault
    split splitlines startswith strip update upper values zfill bit_length
""".split()

PYTHONS_METHODS = {name for kind in (int, str, list, tuple, dict, set, bytes, float) for name in dir(kind)}


def files():
    return sorted(PACKAGE.glob("*.py"))


def tree_of(path):
    return ast.parse(path.read_text(encoding="ascii"))


def bound_names(node):
    """The names that a form gives a meaning to."""
    if isinstance(node, (ast.FunctionDef, ast.ClassDef)):
        return [node.name]
    if isinstance(node, ast.arg):
        return [node.arg]
    if isinstance(node, ast.Name) and isinstance(node.ctx, ast.Store):
        return [node.id]
    if isinstance(node, ast.alias):
        return [node.asname or node.name]
    if isinstance(node, ast.ExceptHandler) and node.name:
        return [node.name]
    return []


def top_names(tree):
    return [name for node in tree.body for part in [node] + getattr(node, "targets", []) for name in bound_names(part)]


class Language(unittest.TestCase):
    def each_form(self):
        for path in files():
            for node in ast.walk(tree_of(path)):
                yield f"{path.name}:{getattr(node, 'lineno', 0)}", node

    def test_files_l1_l14(self):
        names = [path.name for path in PACKAGE.iterdir() if path.name != "__pycache__"]
        self.assertIn("__init__.py", names)
        for name in names:
            with self.subTest(name):
                self.assertRegex(name, r"^([a-z][a-z0-9_]*|__init__|__main__)\.py$")
                self.assertNotIn(name[:-3], dir(builtins) + ["test", "tests", "testing", "site", "conftest"])

    def test_signs_and_size_l10_l14_l17(self):
        for path in files():
            text = path.read_bytes().decode("ascii")
            rows = text.split("\n")
            with self.subTest(path.name):
                self.assertRegex(text, r"\A[ -~\n]*\Z")
                self.assertLessEqual(len(rows) - 1, 400)
                self.assertLessEqual(max(len(row) for row in rows), 120)
                self.assertIsNone(WORDS_OUT.search(text))

    def test_forms_l4_l5_l6_l7(self):
        for place, node in self.each_form():
            with self.subTest(place):
                self.assertIsInstance(node, FORMS)
                if isinstance(node, ast.Constant):
                    self.assertIn(type(node.value), (int, str, bool, type(None)))
                if isinstance(node, (ast.FunctionDef, ast.ClassDef)):
                    self.assertEqual(node.decorator_list, [])
                if isinstance(node, ast.FunctionDef):
                    self.assertLessEqual(node.end_lineno - node.lineno + 1, 40)
                if isinstance(node, ast.ClassDef):
                    self.assertLessEqual(len(node.bases), 1)
                    for part in node.body:
                        self.assertIsInstance(part, (ast.FunctionDef, ast.Pass))
                if isinstance(node, ast.arguments):
                    self.assertEqual((node.vararg, node.kwarg, node.kwonlyargs, node.posonlyargs), (None, None, [], []))
                if isinstance(node, (ast.For, ast.While)):
                    self.assertEqual(node.orelse, [])
                if isinstance(node, ast.Try):
                    self.assertEqual(node.finalbody, [])

    def test_rows_by_themselves_l3_l6(self):
        for path in files():
            tree = tree_of(path)
            self.assertIsNotNone(ast.get_docstring(tree), path.name)
            for node in list(ast.walk(tree)):
                if isinstance(node, ast.Expr) and node is not tree.body[0]:
                    self.assertIsInstance(node.value, ast.Call, f"{path.name}:{node.lineno}")

    def test_imports_l2_l16(self):
        trees = {path.stem: tree_of(path) for path in files()}
        drawn = {}
        for name, tree in trees.items():
            rows = [node for node in ast.walk(tree) if isinstance(node, ast.ImportFrom)]
            drawn[name] = [row.module.partition(".")[2] for row in rows]
            for row in rows:
                with self.subTest(f"{name}:{row.lineno}"):
                    self.assertIn(row, tree.body)
                    self.assertEqual((row.level, row.module.partition(".")[0]), (0, "pollproof"))
                    for part in row.names:
                        self.assertIn(part.name, top_names(trees[row.module.partition(".")[2]]))
        while drawn:
            free = [name for name, others in drawn.items() if not set(others) & set(drawn)]
            self.assertTrue(free, f"these draw from one another: {sorted(drawn)}")
            drawn = {name: others for name, others in drawn.items() if name not in free}

    def test_names_l8_l12_l15(self):
        for place, node in self.each_form():
            with self.subTest(place):
                for name in bound_names(node):
                    if name not in DOUBLE:
                        self.assertRegex(name, r"^[A-Za-z][A-Za-z0-9_]*$")
                    self.assertNotIn(name, dir(builtins))
                if isinstance(node, ast.Name) and node.id in dir(builtins):
                    self.assertIn(node.id, OWN_NAMES)

    def test_methods_l25(self):
        for place, node in self.each_form():
            if isinstance(node, ast.Attribute) and node.attr in PYTHONS_METHODS:
                with self.subTest(place):
                    self.assertIn(node.attr, METHODS + ["__init__", "title", "add", "discard"])

    def test_powers_l27(self):
        for place, node in self.each_form():
            if isinstance(node, ast.BinOp) and isinstance(node.op, ast.Pow):
                with self.subTest(place):
                    self.assertIsInstance(node.right, ast.Constant)
                    self.assertIn(node.right.value, range(65))

    def test_tops_l15(self):
        for path in files():
            names = top_names(tree_of(path))
            self.assertEqual(len(names), len(set(names)), path.name)


if __name__ == "__main__":
    unittest.main()
