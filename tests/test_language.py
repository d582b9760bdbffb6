"""The rules of LANGUAGE.md that a program can see, asked of each file of the package."""

import ast
import builtins
import pathlib
import re
import unittest

PACKAGE = pathlib.Path(__file__).resolve().parent.parent / "heldwhen"
NODES = """
    Module Import ImportFrom alias FunctionDef arguments arg Lambda ClassDef Assign AugAssign If While For Return Break
    Continue Pass Raise Try ExceptHandler Expr Constant List Tuple Dict Set BinOp BoolOp UnaryOp Compare IfExp Call
    keyword Attribute Subscript Slice ListComp comprehension JoinedStr FormattedValue Name Load Store And Or Not USub
    UAdd Invert Add Sub Mult FloorDiv Mod Pow BitAnd BitOr BitXor LShift RShift Eq NotEq Lt LtE Gt GtE Is IsNot In NotIn
""".split()
BUILT_IN = """
    len range enumerate zip min max sum abs sorted reversed int str bool list tuple dict set frozenset isinstance ord
    repr any all divmod Exception ValueError TypeError KeyError IndexError LookupError ZeroDivisionError ArithmeticError
    OverflowError RuntimeError NotImplementedError AttributeError StopIteration
""".split()
METHODS = """
    append clear copy count endswith extend find get index insert isalnum isalpha isdigit islower isspace isupper items
    join keys ljust lower lstrip partition pop remove replace reverse rfind rjust rpartition rsplit rstrip setdefault
    split splitlines startswith strip update upper values zfill bit_length
""".split()
DUNDERS = ["__init__", "__eq__", "__repr__", "__str__", "__len__"]
UNUSED = """
    register mro elements open input version_info with_traceback add_note attrgetter breakpoint builtins compile
    copyright credits delattr dir eval exec exit gc getattr globals hasattr help id importlib license locals
    methodcaller os quit setattr super type vars sys
""".split()
NOWHERE = re.compile(
    r"\b(type|typing|typing_extensions|enum|Enum|IntEnum|StrEnum|Flag|IntFlag|Generic|Protocol|ABC|ABCMeta|namedtuple"
    r"|NamedTuple|TypedDict|TYPE_CHECKING|abstractmethod)\b|dataclass|overload|contextmanager")

WALKERS = ["zip", "enumerate", "reversed", "range"]
VIEWS = ["items", "keys", "values"]
WALKED_BY = ["list", "tuple", "dict", "sorted", "sum", "any", "all", "enumerate", "zip", "min", "max", "join"]
KEYWORDS = {
    "sorted": ["key", "reverse"], "min": ["key", "default"], "max": ["key", "default"], "sum": ["start"],
    "enumerate": ["start"], "zip": ["strict"],
}
NO_VALUES = """
    items keys values pop update append clear extend insert remove reverse setdefault sort args encode format
""".split()
FREE_VALUES = "count index title find get join lower upper split strip copy add".split()
OWN_ERRORS = ["KeyError", "ZeroDivisionError", "StopIteration", "ValueError", "LookupError", "IndexError"]
OF_PYTHON = [name for kind in (str, int, list, tuple, dict, set, bytes) for name in dir(kind)]


def sources():
    return {path.stem: path.read_bytes().decode("ascii") for path in sorted(PACKAGE.glob("*.py"))}


def trees():
    return {stem: ast.parse(text) for stem, text in sources().items()}


def bound_at_top(tree):
    names = []
    for part in tree.body:
        if isinstance(part, (ast.FunctionDef, ast.ClassDef)):
            names.append(part.name)
        if isinstance(part, ast.Assign):
            names.extend(target.id for target in part.targets)
    return names


def imported(tree):
    return [alias.name for part in tree.body if isinstance(part, ast.ImportFrom) for alias in part.names]


def bound_within(tree):
    names = []
    for node in ast.walk(tree):
        if isinstance(node, ast.Name) and isinstance(node.ctx, ast.Store):
            names.append(node.id)
        if isinstance(node, ast.arg):
            names.append(node.arg)
        if isinstance(node, ast.ExceptHandler) and node.name:
            names.append(node.name)
        if isinstance(node, ast.FunctionDef):
            names.append(node.name)
    return names


def with_parents(tree):
    """Each node with the one around it."""
    return [(child, node) for node in ast.walk(tree) for child in ast.iter_child_nodes(node)]


def called(node):
    """What a call calls, by its last name; None for what is no call."""
    if not isinstance(node, ast.Call):
        return None
    return node.func.id if isinstance(node.func, ast.Name) else getattr(node.func, "attr", None)


def classes_of(tree):
    return [node for node in tree.body if isinstance(node, ast.ClassDef)]


def values_of(node):
    """The names that a class's methods give to self."""
    return [part.attr for part in ast.walk(node) if isinstance(part, ast.Attribute) and isinstance(part.ctx, ast.Store)]


def methods_of(node):
    return [part.name for part in node.body if isinstance(part, ast.FunctionDef)]


class Files(unittest.TestCase):
    def test_only_plainly_named_files(self):
        for path in PACKAGE.iterdir():
            if path.name != "__pycache__":
                self.assertRegex(path.name, r"^([a-z][a-z0-9_]*|__init__)\.py$")
        self.assertTrue((PACKAGE / "__init__.py").is_file())

    def test_sizes_and_signs(self):
        for stem, text in sources().items():
            rows = text.split("\n")
            self.assertLessEqual(len(rows) - 1, 400, stem)
            for row in rows:
                self.assertLessEqual(len(row), 120, (stem, row))
            self.assertRegex(text, r"\A[ -~\n]*\Z", stem)
            self.assertIsNone(NOWHERE.search(text), stem)

    def test_functions_are_short(self):
        for stem, tree in trees().items():
            for node in ast.walk(tree):
                if isinstance(node, ast.FunctionDef):
                    self.assertLessEqual(node.end_lineno - node.lineno + 1, 40, (stem, node.name))


class Imports(unittest.TestCase):
    def test_from_the_file_that_defines_the_name(self):
        all_trees = trees()
        for stem, tree in all_trees.items():
            for node in ast.walk(tree):
                self.assertNotIsInstance(node, ast.Import, stem)
                if isinstance(node, ast.ImportFrom):
                    self.assertIn(node, tree.body, stem)
                    self.assertEqual(node.level, 0, stem)
                    self.assertTrue(node.module.startswith("heldwhen."), stem)
                    for alias in node.names:
                        self.assertIn(alias.name, bound_at_top(all_trees[node.module.partition(".")[2]]), stem)

    def test_no_two_files_draw_from_one_another(self):
        drawn = {stem: [node.module.partition(".")[2] for node in tree.body if isinstance(node, ast.ImportFrom)]
                 for stem, tree in trees().items()}
        while drawn:
            free = [stem for stem, needed in drawn.items() if not set(needed) & set(drawn)]
            self.assertTrue(free, drawn)
            for stem in free:
                drawn.pop(stem)


class Forms(unittest.TestCase):
    def test_the_top_of_a_module(self):
        for stem, tree in trees().items():
            for place, part in enumerate(tree.body):
                if isinstance(part, ast.Expr):
                    self.assertEqual(place, 0, stem)
                    self.assertIsInstance(part.value.value, str, stem)
                else:
                    self.assertIsInstance(part, (ast.ImportFrom, ast.FunctionDef, ast.ClassDef, ast.Assign), stem)
            names = bound_at_top(tree) + imported(tree)
            self.assertEqual(len(names), len(set(names)), stem)

    def test_only_these_statements_and_expressions(self):
        for stem, tree in trees().items():
            for node in ast.walk(tree):
                place = (stem, getattr(node, "lineno", None))
                self.assertIn(node.__class__.__name__, NODES, place)
                if isinstance(node, (ast.For, ast.While)):
                    self.assertFalse(node.orelse, place)
                if isinstance(node, ast.Try):
                    self.assertFalse(node.finalbody, place)
                if isinstance(node, ast.Assign):
                    self.assertEqual(len(node.targets), 1, place)
                if isinstance(node, ast.ListComp):
                    self.assertEqual(len(node.generators), 1, place)
                    self.assertLessEqual(len(node.generators[0].ifs), 1, place)
                if isinstance(node, ast.Constant):
                    self.assertIsInstance(node.value, (int, str, bool, type(None)), place)
                if isinstance(node, ast.FormattedValue):
                    self.assertIsInstance(node.value, ast.Name, place)
                    self.assertIn(node.conversion, (-1, ord("r")), place)
                    self.assertIsNone(node.format_spec, place)

    def test_plain_parameters_and_no_decorator(self):
        for stem, tree in trees().items():
            for node in ast.walk(tree):
                if isinstance(node, ast.arguments):
                    self.assertFalse(node.vararg or node.kwarg or node.kwonlyargs or node.posonlyargs, stem)
                if isinstance(node, (ast.FunctionDef, ast.ClassDef)):
                    self.assertFalse(node.decorator_list, stem)
                if isinstance(node, ast.ClassDef):
                    self.assertIn(node, tree.body, stem)
                    self.assertLessEqual(len(node.bases), 1, stem)
                    self.assertFalse(node.keywords, stem)
                    for part in node.body:
                        self.assertIsInstance(part, (ast.FunctionDef, ast.Pass), stem)

    def test_is_stands_beside_none_true_false(self):
        for stem, tree in trees().items():
            for node in ast.walk(tree):
                if isinstance(node, ast.Compare):
                    for operator, right in zip(node.ops, node.comparators):
                        if isinstance(operator, (ast.Is, ast.IsNot)):
                            self.assertIsInstance(right, ast.Constant, stem)
                            self.assertIsInstance(right.value, (bool, type(None)), stem)


class Names(unittest.TestCase):
    def test_only_these_of_pythons_own(self):
        for stem, tree in trees().items():
            known = set(BUILT_IN) | set(bound_at_top(tree)) | set(imported(tree)) | set(bound_within(tree))
            for node in ast.walk(tree):
                if isinstance(node, ast.Name):
                    self.assertIn(node.id, known, (stem, node.lineno))

    def test_bound_names_are_plain_and_free(self):
        taken = set(dir(builtins)) | set(UNUSED)
        for stem, tree in trees().items():
            method_names = [part.name for node in tree.body if isinstance(node, ast.ClassDef)
                            for part in node.body if isinstance(part, ast.FunctionDef)]
            for name in bound_at_top(tree) + imported(tree) + bound_within(tree):
                if name in method_names:
                    continue
                self.assertRegex(name, r"^[A-Za-z][A-Za-z0-9_]*$", stem)
                self.assertNotIn(name, taken, stem)
            for name in method_names:
                if name not in DUNDERS:
                    self.assertRegex(name, r"^[A-Za-z][A-Za-z0-9_]*$", stem)

    def test_no_local_is_called_like_an_import_or_a_class(self):
        for stem, tree in trees().items():
            classes = [part.name for part in tree.body if isinstance(part, ast.ClassDef)]
            for node in ast.walk(tree):
                if isinstance(node, ast.FunctionDef):
                    for name in bound_within(node)[1:]:
                        self.assertNotIn(name, imported(tree) + classes, (stem, node.name))

    def test_methods_are_pythons_listed_ones_or_own(self):
        own = [part.name for tree in trees().values() for node in tree.body if isinstance(node, ast.ClassDef)
               for part in node.body if isinstance(part, ast.FunctionDef)]
        for stem, tree in trees().items():
            for node in ast.walk(tree):
                if isinstance(node, ast.Call) and isinstance(node.func, ast.Attribute):
                    self.assertIn(node.func.attr, METHODS + own, (stem, node.lineno))
                if isinstance(node, ast.Attribute):
                    self.assertNotIn(node.attr, UNUSED + ["format", "format_map"], (stem, node.lineno))


class Classes(unittest.TestCase):
    def test_no_name_is_a_method_and_a_value(self):
        classes = [node for tree in trees().values() for node in classes_of(tree)]
        methods = {name for node in classes for name in methods_of(node)}
        values = {name for node in classes for name in values_of(node)}
        self.assertFalse(methods & values)
        for node in classes:
            self.assertEqual(len(methods_of(node)), len(set(methods_of(node))), node.name)
        for name in values:
            self.assertNotIn(name, NO_VALUES)
            self.assertTrue(name in FREE_VALUES or name not in OF_PYTHON, name)
        for name in methods - set(DUNDERS):
            self.assertTrue(name in METHODS + ["add", "discard"] or name not in OF_PYTHON, name)

    def test_a_class_is_called_or_stands_where_it_may(self):
        for stem, tree in trees().items():
            names = [node.name for node in classes_of(tree)]
            names += [name for name in imported(tree) if name[0].isupper() and not name.isupper()]
            for child, node in with_parents(tree):
                if isinstance(child, ast.Name) and child.id in names:
                    here = isinstance(node, (ast.ClassDef, ast.ExceptHandler, ast.Raise))
                    self.assertTrue(here or called(node) in (child.id, "isinstance"), (stem, child.lineno))

    def test_errors_are_taken_by_name_and_raised_on_the_spot(self):
        refusals = [node.name for node in classes_of(trees()["errors"])]
        for stem, tree in trees().items():
            for node in ast.walk(tree):
                if isinstance(node, ast.ExceptHandler):
                    taken = node.type.elts if isinstance(node.type, ast.Tuple) else [node.type]
                    for error in taken:
                        self.assertIn(error.id, refusals + OWN_ERRORS, (stem, node.lineno))
                if isinstance(node, ast.Raise):
                    self.assertIn(called(node.exc), refusals, (stem, node.lineno))

    def test_a_list_or_dict_of_a_files_top_holds_none(self):
        for stem, tree in trees().items():
            for part in tree.body:
                if isinstance(part, ast.Assign):
                    within = [node for node in ast.walk(part.value) if isinstance(node, (ast.List, ast.Dict, ast.Set))]
                    self.assertLessEqual(len(within), 1, (stem, part.lineno))


class PythonsOwn(unittest.TestCase):
    def test_keywords(self):
        for stem, tree in trees().items():
            for node in ast.walk(tree):
                if isinstance(node, ast.Call):
                    for keyword in node.keywords:
                        self.assertIn(keyword.arg, KEYWORDS.get(called(node), []), (stem, node.lineno))

    def test_walked_at_once(self):
        for stem, tree in trees().items():
            for child, node in with_parents(tree):
                view = called(child) in VIEWS and isinstance(child.func, ast.Attribute)
                if view or called(child) in WALKERS:
                    looped = isinstance(node, (ast.For, ast.comprehension)) and node.iter is child
                    self.assertTrue(looped or called(node) in WALKED_BY, (stem, child.lineno))

    def test_sets_stand_beside_in_or_within_sorted_or_len(self):
        for stem, tree in trees().items():
            around = {child: node for child, node in with_parents(tree)}
            for child in around:
                if called(child) == "set" or isinstance(child, ast.Set):
                    node = around[child]
                    while isinstance(node, ast.BinOp):
                        node = around[node]
                    place = (stem, child.lineno)
                    self.assertTrue(isinstance(node, ast.Compare) or called(node) in ("sorted", "len"), place)
                    self.assertFalse(getattr(node, "keywords", []), place)

    def test_pythons_own_are_called_not_handed_on(self):
        may_stand = ["int", "str", "bool", "list", "tuple", "dict"]
        for stem, tree in trees().items():
            for child, node in with_parents(tree):
                if isinstance(child, ast.Name) and child.id in BUILT_IN and called(node) != child.id:
                    kinds = called(node) == "isinstance" or isinstance(node, ast.Tuple)
                    error = isinstance(node, (ast.ClassDef, ast.ExceptHandler, ast.Tuple))
                    key = isinstance(node, ast.keyword) and node.arg == "key"
                    place = (stem, child.lineno)
                    self.assertTrue(kinds and child.id in may_stand or error or key, place)

    def test_methods_are_called_where_they_stand(self):
        for stem, tree in trees().items():
            for child, node in with_parents(tree):
                if isinstance(child, ast.Attribute) and child.attr in METHODS and called(node) != child.attr:
                    self.assertIn(child.attr, FREE_VALUES, (stem, child.lineno))

    def test_no_power_but_a_written_one_and_no_percent_sign_in_a_text(self):
        for stem, tree in trees().items():
            for node in ast.walk(tree):
                if isinstance(node, ast.BinOp) and isinstance(node.op, ast.Pow):
                    self.assertIsInstance(node.right, ast.Constant, stem)
                    self.assertIn(node.right.value, range(65), stem)
                if isinstance(node, ast.Constant) and isinstance(node.value, str):
                    self.assertNotIn("%", node.value, stem)
