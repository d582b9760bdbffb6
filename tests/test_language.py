"""The rules of LANGUAGE.md that a program can see, asked of each file of the package."""

import ast
import builtins
import pathlib
import re
import unittest

PACKAGE = pathlib.Path(__file__).resolve().parent.parent / "heldwhen"
NODES = """
    Module Import ImportFrom alias FunctionDef arguments arg Lambda ClassDef Assign AugAssign If While For Return Break
    Continue Pass Raise Try ExceptHandler Expr Constant List Tuple Dict Set BinOp BoolOp UnaryOp Compare IfExp Call
    keyword Attribute Subscript Slice ListComp comprehension JoinedStr FormattedValue Name Load Store And Or Not USub
    UAdd Invert Add Sub Mult FloorDiv Mod Pow BitAnd BitOr BitXor LShift RShift Eq NotEq Lt LtE Gt GtE Is IsNot In NotIn
""".split()
BUILT_IN = """
    len range enumerate zip min max sum abs sorted reversed int str bool list tuple dict set frozenset isinstance ord
    repr any all divmod Exception ValueError TypeError KeyError IndexError LookupError ZeroDivisionError ArithmeticError
    OverflowError RuntimeError NotImplementedError AttributeError StopIteration
""".split()
METHODS = """
    append clear copy count endswith extend find get index insert isalnum isalpha isdigit islower isspace isupper items
    join keys ljust lower lstrip partition pop remove replace reverse rfind rjust rpartition rsplit rstrip setdefault
    split splitlines startswith strip update upper values zfill bit_length
""".split()
DUNDERS = ["__init__", "__eq__", "__repr__", "__str__", "__len__"]
UNUSED = """
    register mro elements open input version_info with_traceback add_note attrgetter breakpoint builtins compile
    copyright credits delattr dir eval exec exit gc getattr globals hasattr help id importlib license locals
    methodcaller os quit setattr super type vars sys
""".split()
NOWHERE = re.compile(
    r"\b(type|typing|typing_extensions|enum|Enum|IntEnum|StrEnum|Flag|IntFlag|Generic|Protocol|ABC|ABCMeta|namedtuple"
    r"|NamedTuple|TypedDict|TYPE_CHECKING|abstractmethod)\b|dataclass|overload|contextmanager")


def sources():
    return {path.stem: path.read_bytes().decode("ascii") for path in sorted(PACKAGE.glob("*.py"))}


def trees():
    return {stem: ast.parse(text) for stem, text in sources().items()}


def bound_at_top(tree):
    names = []
    for part in tree.body:
        if isinstance(part, (ast.FunctionDef, ast.ClassDef)):
            names.append(part.name)
        if isinstance(part, ast.Assign):
            names.extend(target.id for target in part.targets)
    return names


def imported(tree):
    return [alias.name for part in tree.body if isinstance(part, ast.ImportFrom) for alias in part.names]


def bound_within(tree):
    names = []
    for node in ast.walk(tree):
        if isinstance(node, ast.Name) and isinstance(node.ctx, ast.Store):
            names.append(node.id)
        if isinstance(node, ast.arg):
            names.append(node.arg)
        if isinstance(node, ast.ExceptHandler) and node.name:
            names.append(node.name)
        if isinstance(node, ast.FunctionDef):
            names.append(node.name)
    return names


class Files(unittest.TestCase):
    def test_only_plainly_named_files(self):
        for path in PACKAGE.iterdir():
            if path.name != "__pycache__":
                self.assertRegex(path.name, r"^([a-z][a-z0-9_]*|__init__)\.py$")
        self.assertTrue((PACKAGE / "__init__.py").is_file())

    def test_sizes_and_signs(self):
        for stem, text in sources().items():
            rows = text.split("\n")
            self.assertLessEqual(len(rows) - 1, 400, stem)
            for row in rows:
                self.assertLessEqual(len(row), 120, (stem, row))
            self.assertRegex(text, r"\A[ -~\n]*\Z", stem)
            self.assertIsNone(NOWHERE.search(text), stem)

    def test_functions_are_short(self):
        for stem, tree in trees().items():
            for node in ast.walk(tree):
                if isinstance(node, ast.FunctionDef):
                    self.assertLessEqual(node.end_lineno - node.lineno + 1, 40, (stem, node.name))


class Imports(unittest.TestCase):
    def test_from_the_file_that_defines_the_name(self):
        all_trees = trees()
        for stem, tree in all_trees.items():
            for node in ast.walk(tree):
                self.assertNotIsInstance(node, ast.Import, stem)
                if isinstance(node, ast.ImportFrom):
                    self.assertIn(node, tree.body, stem)
                    self.assertEqual(node.level, 0, stem)
                    self.assertTrue(node.module.startswith("heldwhen."), stem)
                    for alias in node.names:
                        self.assertIn(alias.name, bound_at_top(all_trees[node.module.partition(".")[2]]), stem)

    def test_no_two_files_draw_from_one_another(self):
        drawn = {stem: [node.module.partition(".")[2] for node in tree.body if isinstance(node, ast.ImportFrom)]
                 for stem, tree in trees().items()}
        while drawn:
            free = [stem for stem, needed in drawn.items() if not set(needed) & set(drawn)]
            self.assertTrue(free, drawn)
            for stem in free:
                drawn.pop(stem)


class Forms(unittest.TestCase):
    def test_the_top_of_a_module(self):
        for stem, tree in trees().items():
            for place, part in enumerate(tree.body):
                if isinstance(part, ast.Expr):
                    self.assertEqual(place, 0, stem)
                    self.assertIsInstance(part.value.value, str, stem)
                else:
                    self.assertIsInstance(part, (ast.ImportFrom, ast.FunctionDef, ast.ClassDef, ast.Assign), stem)
            names = bound_at_top(tree) + imported(tree)
            self.assertEqual(len(names), len(set(names)), stem)

    def test_only_these_statements_and_expressions(self):
        for stem, tree in trees().items():
            for node in ast.walk(tree):
                place = (stem, getattr(node, "lineno", None))
                self.assertIn(node.__class__.__name__, NODES, place)
                if isinstance(node, (ast.For, ast.While)):
                    self.assertFalse(node.orelse, place)
                if isinstance(node, ast.Try):
                    self.assertFalse(node.finalbody, place)
                if isinstance(node, ast.Assign):
                    self.assertEqual(len(node.targets), 1, place)
                if isinstance(node, ast.ListComp):
                    self.assertEqual(len(node.generators), 1, place)
                    self.assertLessEqual(len(node.generators[0].ifs), 1, place)
                if isinstance(node, ast.Constant):
                    self.assertIsInstance(node.value, (int, str, bool, type(None)), place)
                if isinstance(node, ast.FormattedValue):
                    self.assertIsInstance(node.value, ast.Name, place)
                    self.assertIn(node.conversion, (-1, ord("r")), place)
                    self.assertIsNone(node.format_spec, place)

    def test_plain_parameters_and_no_decorator(self):
        for stem, tree in trees().items():
            for node in ast.walk(tree):
                if isinstance(node, ast.arguments):
                    self.assertFalse(node.vararg or node.kwarg or node.kwonlyargs or node.posonlyargs, stem)
                if isinstance(node, (ast.FunctionDef, ast.ClassDef)):
                    self.assertFalse(node.decorator_list, stem)
                if isinstance(node, ast.ClassDef):
                    self.assertIn(node, tree.body, stem)
                    self.assertLessEqual(len(node.bases), 1, stem)
                    self.assertFalse(node.keywords, stem)
                    for part in node.body:
                        self.assertIsInstance(part, (ast.FunctionDef, ast.Pass), stem)

    def test_is_stands_beside_none_true_false(self):
        for stem, tree in trees().items():
            for node in ast.walk(tree):
                if isinstance(node, ast.Compare):
                    for operator, right in zip(node.ops, node.comparators):
                        if isinstance(operator, (ast.Is, ast.IsNot)):
                            self.assertIsInstance(right, ast.Constant, stem)
                            self.assertIsInstance(right.value, (bool, type(None)), stem)


class Names(unittest.TestCase):
    def test_only_these_of_pythons_own(self):
        for stem, tree in trees().items():
            known = set(BUILT_IN) | set(bound_at_top(tree)) | set(imported(tree)) | set(bound_within(tree))
            for node in ast.walk(tree):
                if isinstance(node, ast.Name):
                    self.assertIn(node.id, known, (stem, node.lineno))

    def test_bound_names_are_plain_and_free(self):
        taken = set(dir(builtins)) | set(UNUSED)
        for stem, tree in trees().items():
            method_names = [part.name for node in tree.body if isinstance(node, ast.ClassDef)
                            for part in node.body if isinstance(part, ast.FunctionDef)]
            for name in bound_at_top(tree) + imported(tree) + bound_within(tree):
                if name in method_names:
                    continue
                self.assertRegex(name, r"^[A-Za-z][A-Za-z0-9_]*$", stem)
                self.assertNotIn(name, taken, stem)
            for name in method_names:
                if name not in DUNDERS:
                    self.assertRegex(name, r"^[A-Za-z][A-Za-z0-9_]*$", stem)

    def test_no_local_is_called_like_an_import_or_a_class(self):
        for stem, tree in trees().items():
            classes = [part.name for part in tree.body if isinstance(part, ast.ClassDef)]
            for node in ast.walk(tree):
                if isinstance(node, ast.FunctionDef):
                    for name in bound_within(node)[1:]:
                        self.assertNotIn(name, imported(tree) + classes, (stem, node.name))

    def test_methods_are_pythons_listed_ones_or_own(self):
        own = [part.name for tree in trees().values() for node in tree.body if isinstance(node, ast.ClassDef)
               for part in node.body if isinstance(part, ast.FunctionDef)]
        for stem, tree in trees().items():
            for node in ast.walk(tree):
                if isinstance(node, ast.Call) and isinstance(node.func, ast.Attribute):
                    self.assertIn(node.func.attr, METHODS + own, (stem, node.lineno))
                if isinstance(node, ast.Attribute):
                    self.assertNotIn(node.attr, UNUSED + ["format", "format_map"], (stem, node.lineno))
