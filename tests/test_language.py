"""Holds the package's files to those rules of LANGUAGE.md that a short look at the tree can see."""

import ast
import builtins
import pathlib
import re
import unittest

PACKAGE = pathlib.Path(__file__).resolve().parent.parent / "pollproof"

FORMS = tuple(getattr(ast, name) for name in """
    Module FunctionDef arguments arg ClassDef Return Assign AugAssign For While If Raise Try ExceptHandler Expr Pass
    Break Continue ImportFrom alias BoolOp BinOp UnaryOp Lambda IfExp Dict Set List Tuple ListComp comprehension
    Compare Call keyword JoinedStr FormattedValue Constant Attribute Subscript Slice Name expr_context boolop unaryop
    cmpop Add Sub Mult FloorDiv Mod Pow LShift RShift BitOr BitXor BitAnd
""".split())

OWN_NAMES = """
    len range enumerate zip min max sum abs sorted reversed int str bool list tuple dict set frozenset isinstance ord
    repr any all divmod Exception ValueError TypeError KeyError IndexError LookupError ZeroDivisionError
    ArithmeticError OverflowError RuntimeError NotImplementedError AttributeError StopIteration
""".split()

DOUBLE = ["__init__", "__eq__", "__repr__", "__str__", "__len__"]

WORDS_OUT = re.compile(
    r"\b(type|typing|typing_extensions|enum|Enum|IntEnum|StrEnum|Flag|IntFlag|Generic|Protocol|ABC|ABCMeta|namedtuple"
    r"|NamedTuple|TypedDict|TYPE_CHECKING|abstractmethod)\b|dataclass|overload|contextmanager"
)

METHODS = """
    append clear copy count endswith extend find get index insert isalnum isalpha isdigit islower isspace isupper items
    join keys ljust lower lstrip partition pop remove replace reverse rfind rjust rpartition rsplit rstrip setdefault
    split splitlines startswith strip update upper values zfill bit_length
""".split()

PYTHONS_METHODS = {name for kind in (int, str, list, tuple, dict, set, bytes, float) for name in dir(kind)}


def files():
    return sorted(PACKAGE.glob("*.py"))


def tree_of(path):
    return ast.parse(path.read_text(encoding="ascii"))


def bound_names(node):
    """The names that a form gives a meaning to."""
    if isinstance(node, (ast.FunctionDef, ast.ClassDef)):
        return [node.name]
    if isinstance(node, ast.arg):
        return [node.arg]
    if isinstance(node, ast.Name) and isinstance(node.ctx, ast.Store):
        return [node.id]
    if isinstance(node, ast.alias):
        return [node.asname or node.name]
    if isinstance(node, ast.ExceptHandler) and node.name:
        return [node.name]
    return []


def top_names(tree):
    return [name for node in tree.body for part in [node] + getattr(node, "targets", []) for name in bound_names(part)]


def parents_of(tree):
    """Each form's own form around it."""
    return {part: node for node in ast.walk(tree) for part in ast.iter_child_nodes(node)}


def called_name(node):
    """The name that a call calls: a plain one, or a method's."""
    if not isinstance(node, ast.Call):
        return None
    return node.func.id if isinstance(node.func, ast.Name) else getattr(node.func, "attr", None)


def is_method_call(node):
    return isinstance(node, ast.Call) and isinstance(node.func, ast.Attribute)


def walked_on_the_spot(node, around):
    """Whether a call of zip, items and their like stands where its things are walked at once."""
    if isinstance(around, (ast.For, ast.comprehension)):
        return around.iter is node
    name = called_name(around)
    if name in ("min", "max"):
        return around.args == [node]
    if is_method_call(around):
        return name == "join" and isinstance(around.func.value, ast.Constant)
    return name in FIRST_IN and node in around.args[:None if name == "zip" else 1]


FIRST_IN = ["list", "tuple", "dict", "sorted", "sum", "any", "all", "enumerate", "zip"]
WALKED = ["zip", "enumerate", "reversed", "range"]
CHANGING = ["append", "clear", "extend", "insert", "pop", "remove", "reverse", "setdefault", "update"]
KEYWORDS = {"sorted": ["key", "reverse"], "min": ["key", "default"], "max": ["key", "default"], "sum": ["start"],
            "enumerate": ["start"], "zip": ["strict"]}


class Language(unittest.TestCase):
    def each_form(self):
        for path in files():
            for node in ast.walk(tree_of(path)):
                yield f"{path.name}:{getattr(node, 'lineno', 0)}", node

    def test_files_l1_l14(self):
        names = [path.name for path in PACKAGE.iterdir() if path.name != "__pycache__"]
        self.assertIn("__init__.py", names)
        for name in names:
            with self.subTest(name):
                self.assertRegex(name, r"^([a-z][a-z0-9_]*|__init__|__main__)\.py$")
                self.assertNotIn(name[:-3], dir(builtins) + ["test", "tests", "testing", "site", "conftest"])

    def test_signs_and_size_l10_l14_l17(self):
        for path in files():
            text = path.read_bytes().decode("ascii")
            rows = text.split("\n")
            with self.subTest(path.name):
                self.assertRegex(text, r"\A[ -~\n]*\Z")
                self.assertLessEqual(len(rows) - 1, 400)
                self.assertLessEqual(max(len(row) for row in rows), 120)
                self.assertIsNone(WORDS_OUT.search(text))

    def test_forms_l4_l5_l6_l7(self):
        for place, node in self.each_form():
            with self.subTest(place):
                self.assertIsInstance(node, FORMS)
                if isinstance(node, ast.Constant):
                    self.assertIn(type(node.value), (int, str, bool, type(None)))
                if isinstance(node, (ast.FunctionDef, ast.ClassDef)):
                    self.assertEqual(node.decorator_list, [])
                if isinstance(node, ast.FunctionDef):
                    self.assertLessEqual(node.end_lineno - node.lineno + 1, 40)
                if isinstance(node, ast.ClassDef):
                    self.assertLessEqual(len(node.bases), 1)
                    for part in node.body:
                        self.assertIsInstance(part, (ast.FunctionDef, ast.Pass))
                if isinstance(node, ast.arguments):
                    self.assertEqual((node.vararg, node.kwarg, node.kwonlyargs, node.posonlyargs), (None, None, [], []))
                if isinstance(node, (ast.For, ast.While)):
                    self.assertEqual(node.orelse, [])
                if isinstance(node, ast.Try):
                    self.assertEqual(node.finalbody, [])

    def test_rows_by_themselves_l3_l6(self):
        for path in files():
            tree = tree_of(path)
            self.assertIsNotNone(ast.get_docstring(tree), path.name)
            for node in list(ast.walk(tree)):
                if isinstance(node, ast.Expr) and node is not tree.body[0]:
                    self.assertIsInstance(node.value, ast.Call, f"{path.name}:{node.lineno}")

    def test_imports_l2_l16(self):
        trees = {path.stem: tree_of(path) for path in files()}
        drawn = {}
        for name, tree in trees.items():
            rows = [node for node in ast.walk(tree) if isinstance(node, ast.ImportFrom)]
            drawn[name] = [row.module.partition(".")[2] for row in rows]
            for row in rows:
                with self.subTest(f"{name}:{row.lineno}"):
                    self.assertIn(row, tree.body)
                    self.assertEqual((row.level, row.module.partition(".")[0]), (0, "pollproof"))
                    for part in row.names:
                        self.assertIn(part.name, top_names(trees[row.module.partition(".")[2]]))
        while drawn:
            free = [name for name, others in drawn.items() if not set(others) & set(drawn)]
            self.assertTrue(free, f"these draw from one another: {sorted(drawn)}")
            drawn = {name: others for name, others in drawn.items() if name not in free}

    def test_names_l8_l12_l15(self):
        for place, node in self.each_form():
            with self.subTest(place):
                for name in bound_names(node):
                    if name not in DOUBLE:
                        self.assertRegex(name, r"^[A-Za-z][A-Za-z0-9_]*$")
                    self.assertNotIn(name, dir(builtins))
                if isinstance(node, ast.Name) and node.id in dir(builtins):
                    self.assertIn(node.id, OWN_NAMES)

    def test_methods_l25(self):
        for place, node in self.each_form():
            if isinstance(node, ast.Attribute) and node.attr in PYTHONS_METHODS:
                with self.subTest(place):
                    self.assertIn(node.attr, METHODS + ["__init__", "title", "add", "discard"])

    def test_powers_l27(self):
        for place, node in self.each_form():
            if isinstance(node, ast.BinOp) and isinstance(node.op, ast.Pow):
                with self.subTest(place):
                    self.assertIsInstance(node.right, ast.Constant)
                    self.assertIn(node.right.value, range(65))

    def test_targets_l6(self):
        for place, node in self.each_form():
            if isinstance(node, ast.Assign):
                with self.subTest(place):
                    self.assertEqual(len(node.targets), 1)
                    self.assertIsInstance(node.targets[0], (ast.Name, ast.Attribute, ast.Subscript))

    def test_comprehensions_l7(self):
        for place, node in self.each_form():
            with self.subTest(place):
                if isinstance(node, ast.ListComp):
                    self.assertEqual(len(node.generators), 1)
                    self.assertLessEqual(len(node.generators[0].ifs), 1)
                if isinstance(node, ast.FormattedValue):
                    self.assertIsInstance(node.value, ast.Name)
                    self.assertIsNone(node.format_spec)

    def test_locals_l15(self):
        for path in files():
            tree = tree_of(path)
            tops = top_names(tree) + [part.asname or part.name for node in tree.body
                                      if isinstance(node, ast.ImportFrom) for part in node.names]
            for top in tree.body:
                defs = [top] if isinstance(top, ast.FunctionDef) else getattr(top, "body", [])
                for part in defs:
                    inside = [name for node in ast.walk(part) if node is not part for name in bound_names(node)]
                    if isinstance(part, ast.FunctionDef):
                        with self.subTest(f"{path.name}:{part.lineno}"):
                            self.assertEqual([name for name in inside if name in tops], [])

    def test_methods_and_values_l18_l26(self):
        methods, values = set(), set()
        for place, node in self.each_form():
            if isinstance(node, ast.ClassDef):
                names = [part.name for part in node.body if isinstance(part, ast.FunctionDef)]
                self.assertEqual(len(names), len(set(names)), place)
                methods |= set(names)
            if isinstance(node, ast.Attribute) and isinstance(node.ctx, ast.Store):
                self.assertIsInstance(node.value, ast.Name, place)
                self.assertNotIn(node.attr, PYTHONS_METHODS | {"args"}, place)
                values.add(node.attr)
        self.assertEqual(methods & values, set())
        self.assertEqual((methods - set(DOUBLE)) & PYTHONS_METHODS, set())

    def test_errors_l19(self):
        for place, node in self.each_form():
            with self.subTest(place):
                if isinstance(node, ast.Raise):
                    self.assertIsInstance(node.exc, ast.Call)
                if isinstance(node, ast.ExceptHandler):
                    self.assertIsInstance(node.type, ast.Name)
                    self.assertNotIn(node.type.id, dir(builtins))

    def test_is_l20(self):
        for place, node in self.each_form():
            if isinstance(node, ast.Compare):
                for operator, right in zip(node.ops, node.comparators):
                    if isinstance(operator, (ast.Is, ast.IsNot)):
                        self.assertIn(getattr(right, "value", 0), (None, True, False), place)
                        self.assertIsInstance(right, ast.Constant, place)

    def test_keywords_l22(self):
        for place, node in self.each_form():
            if isinstance(node, ast.Call):
                allowed = [] if is_method_call(node) else KEYWORDS.get(called_name(node), [])
                for keyword in node.keywords:
                    self.assertIn(keyword.arg, allowed, place)

    def test_own_names_are_called_l22_l25(self):
        for path in files():
            tree = tree_of(path)
            around = parents_of(tree)
            for node in ast.walk(tree):
                place = f"{path.name}:{getattr(node, 'lineno', 0)}"
                if isinstance(node, ast.Name) and node.id in dir(builtins):
                    outer = around[node]
                    called = isinstance(outer, ast.Call) and (outer.func is node or called_name(outer) == "isinstance")
                    in_pair = isinstance(outer, ast.Tuple) and called_name(around[outer]) == "isinstance"
                    a_base = isinstance(outer, ast.ClassDef)
                    a_key = isinstance(outer, ast.keyword) and outer.arg == "key"
                    self.assertTrue(called or in_pair or a_base or a_key, place)
                if isinstance(node, ast.Attribute) and node.attr in METHODS:
                    self.assertTrue(isinstance(around[node], ast.Call) and around[node].func is node, place)

    def test_walked_on_the_spot_l23(self):
        for path in files():
            tree = tree_of(path)
            around = parents_of(tree)
            for node in ast.walk(tree):
                plain = called_name(node) in WALKED and not is_method_call(node)
                of_dict = called_name(node) in ("items", "keys", "values") and is_method_call(node)
                if plain or of_dict:
                    self.assertTrue(walked_on_the_spot(node, around[node]), f"{path.name}:{node.lineno}")

    def test_what_is_walked_stays_l23(self):
        for place, node in self.each_form():
            if not isinstance(node, ast.For):
                continue
            walked = {ast.unparse(part) for part in ast.walk(node.iter) if isinstance(part, (ast.Name, ast.Attribute))}
            for part in [inner for row in node.body for inner in ast.walk(row)]:
                if is_method_call(part) and part.func.attr in CHANGING:
                    self.assertNotIn(ast.unparse(part.func.value), walked, place)
                if isinstance(part, ast.Subscript) and isinstance(part.ctx, ast.Store):
                    self.assertNotIn(ast.unparse(part.value), walked, place)

    def test_sets_l13_l24(self):
        for path in files():
            tree = tree_of(path)
            around = parents_of(tree)
            for node in ast.walk(tree):
                self.assertNotIsInstance(node, ast.Set)
                if called_name(node) in ("set", "frozenset"):
                    outer = around[node]
                    fits = isinstance(outer, ast.Compare) or called_name(outer) in ("sorted", "len")
                    self.assertTrue(fits, f"{path.name}:{node.lineno}")

    def test_classes_l18_and_tops_l3(self):
        for path in files():
            tree = tree_of(path)
            around = parents_of(tree)
            names = [node.name for node in tree.body if isinstance(node, ast.ClassDef)]
            names += [part.name for node in tree.body if isinstance(node, ast.ImportFrom) for part in node.names
                      if part.name[0].isupper() and not part.name.isupper()]
            for node in tree.body[1:]:
                self.assertIsInstance(node, (ast.ImportFrom, ast.FunctionDef, ast.ClassDef, ast.Assign), path.name)
                if isinstance(node, ast.Assign):
                    ast.literal_eval(node.value)
            for node in ast.walk(tree):
                if isinstance(node, ast.Name) and node.id in names:
                    outer = around[node]
                    called = isinstance(outer, ast.Call) and outer.func is node
                    a_base = isinstance(outer, (ast.ClassDef, ast.ExceptHandler))
                    of_base = isinstance(outer, ast.Attribute) and outer.attr == "__init__"
                    asked = called_name(outer) == "isinstance"
                    self.assertTrue(called or a_base or of_base or asked, f"{path.name}:{node.lineno}")

    def test_texts_l27(self):
        for place, node in self.each_form():
            if isinstance(node, ast.Constant) and isinstance(node.value, str):
                self.assertNotIn("%", node.value, place)
            if isinstance(node, ast.Call):
                self.assertNotEqual(called_name(node), "chr", place)

    def test_tops_l15(self):
        for path in files():
            names = top_names(tree_of(path))
            self.assertEqual(len(names), len(set(names)), path.name)


if __name__ == "__main__":
    unittest.main()
