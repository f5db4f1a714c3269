"""Holds the package to the rules of ../shared/LANGUAGE.md that a look at the code can tell."""

import ast
import builtins
import pathlib
import re
import unittest

PACKAGE = pathlib.Path(__file__).resolve().parent.parent / "strollhouse"

NODES = set(
    "Module FunctionDef ClassDef arguments arg Import ImportFrom alias Assign AugAssign If While For Return Break "
    "Continue Pass Raise Try ExceptHandler Expr Name Load Store Attribute Subscript Slice Constant List Tuple Dict "
    "Set BinOp UnaryOp BoolOp Compare IfExp Call keyword ListComp comprehension Lambda JoinedStr FormattedValue "
    "Add Sub Mult FloorDiv Mod Pow LShift RShift BitOr BitAnd BitXor Invert USub UAdd Not And Or "
    "Eq NotEq Lt LtE Gt GtE Is IsNot In NotIn".split()
)
BUILT_IN = set(
    "len range enumerate zip min max sum abs sorted reversed int str bool list tuple dict set frozenset isinstance "
    "ord repr any all divmod Exception ValueError TypeError KeyError IndexError LookupError ZeroDivisionError "
    "ArithmeticError OverflowError RuntimeError NotImplementedError AttributeError StopIteration".split()
)
METHODS = set(
    "append clear copy count endswith extend find get index insert isalnum isalpha isdigit islower isspace isupper "
    "items join keys ljust lower lstrip partition pop remove replace reverse rfind rjust rpartition rsplit rstrip "
    "setdefault split splitlines startswith strip update upper values zfill bit_length".split()
)
FOREIGN_METHODS = {name for kind in (str, int, list, dict, set, tuple, bytes) for name in vars(kind)} - METHODS
NOT_NAMES = set(
    "register mro elements open input version_info with_traceback add_note attrgetter breakpoint builtins compile "
    "copyright credits delattr dir eval exec exit gc getattr globals hasattr help id importlib license locals "
    "methodcaller os quit setattr super type vars sys".split()
)
WORDS = re.compile(
    r"\b(type|typing|typing_extensions|enum|Enum|IntEnum|StrEnum|Flag|IntFlag|Generic|Protocol|ABC|ABCMeta|namedtuple"
    r"|NamedTuple|TypedDict|TYPE_CHECKING|abstractmethod)\b|dataclass|overload|contextmanager"
)


def bound_names(node):
    if isinstance(node, (ast.FunctionDef, ast.ClassDef)):
        return [node.name]
    if isinstance(node, ast.arg):
        return [node.arg]
    if isinstance(node, ast.Name) and isinstance(node.ctx, ast.Store):
        return [node.id]
    if isinstance(node, ast.ExceptHandler) and node.name:
        return [node.name]
    return []


def imported_names(tree):
    return {alias.name for node in tree.body if isinstance(node, ast.ImportFrom) for alias in node.names}


def called(node):
    return node.func.id if isinstance(node, ast.Call) and isinstance(node.func, ast.Name) else None


def places_to_walk(tree):
    found = [node.iter for node in ast.walk(tree) if isinstance(node, (ast.For, ast.comprehension))]
    takers = ("list", "tuple", "dict", "sorted", "sum", "any", "all", "enumerate", "zip")
    return found + [node.args[0] for node in ast.walk(tree) if called(node) in takers and node.args]


class Language(unittest.TestCase):
    def hold_each_file(self, hold):
        for path in sorted(PACKAGE.glob("*.py")):
            text = path.read_text(encoding="utf-8")
            with self.subTest(path.name):
                hold(text, ast.parse(text))

    def test_only_plain_files_lie_in_the_package(self):
        names = [path.name for path in PACKAGE.iterdir() if path.name != "__pycache__"]
        self.assertIn("__init__.py", names)
        for name in names:
            self.assertRegex(name, r"^(__init__|[a-z][a-z0-9_]*)\.py$")

    def test_signs_words_and_sizes(self):
        self.hold_each_file(self.hold_signs_words_and_sizes)

    def hold_signs_words_and_sizes(self, text, tree):
        self.assertRegex(text, r"\A[\n -~]*\Z")
        self.assertIsNone(WORDS.search(text))
        rows = text.split("\n")
        self.assertLessEqual(len(rows), 400)
        self.assertLessEqual(max(len(row) for row in rows), 120)
        for node in ast.walk(tree):
            if isinstance(node, ast.FunctionDef):
                self.assertLessEqual(node.end_lineno - node.lineno + 1, 40, node.name)

    def test_the_top_of_a_file(self):
        self.hold_each_file(self.hold_the_top_of_a_file)

    def hold_the_top_of_a_file(self, text, tree):
        bound = []
        for node in tree.body[1:]:
            self.assertIsInstance(node, (ast.ImportFrom, ast.FunctionDef, ast.ClassDef, ast.Assign))
            if isinstance(node, ast.ImportFrom):
                self.assertRegex(node.module, r"^strollhouse\.[a-z]+$")
                self.assertEqual(node.level, 0)
                bound.extend(alias.name for alias in node.names)
                self.assertEqual([alias.asname for alias in node.names], [None] * len(node.names))
            if isinstance(node, ast.Assign):
                ast.literal_eval(node.value)
                bound.extend(target.id for target in node.targets)
            bound.extend(bound_names(node))
        self.assertEqual(len(bound), len(set(bound)))
        self.assertIsNotNone(ast.get_docstring(tree))

    def test_only_the_kinds_of_code_that_are_allowed(self):
        self.hold_each_file(self.hold_only_the_kinds_of_code_that_are_allowed)

    def hold_only_the_kinds_of_code_that_are_allowed(self, text, tree):
        for node in ast.walk(tree):
            where = (type(node).__name__, getattr(node, "lineno", None))
            self.assertIn(where[0], NODES, where)
            if isinstance(node, (ast.For, ast.While)):
                self.assertEqual(node.orelse, [], where)
            if isinstance(node, ast.Assign):
                self.assertEqual(len(node.targets), 1, where)
            if isinstance(node, ast.Constant):
                self.assertIn(type(node.value), (int, str, bool, type(None)), where)
                self.assertNotIn("%", str(node.value), where)
            if isinstance(node, ast.comprehension):
                self.assertLessEqual(len(node.ifs), 1, where)
            if isinstance(node, ast.ListComp):
                self.assertEqual(len(node.generators), 1, where)
            if isinstance(node, (ast.FunctionDef, ast.ClassDef)):
                self.assertEqual(node.decorator_list, [], where)
                self.assertIsNone(ast.get_docstring(node), where)

    def test_names(self):
        self.hold_each_file(self.hold_names)

    def hold_names(self, text, tree):
        imported = imported_names(tree)
        for node in ast.walk(tree):
            for name in bound_names(node):
                self.assertRegex(name, r"^[A-Za-z][A-Za-z0-9_]*$")
                self.assertNotIn(name, imported)
                self.assertFalse(hasattr(builtins, name), name)
            if isinstance(node, ast.Name):
                self.assertNotIn(node.id, NOT_NAMES)
                if hasattr(builtins, node.id):
                    self.assertIn(node.id, BUILT_IN)
            if isinstance(node, ast.Attribute):
                self.assertNotIn(node.attr, FOREIGN_METHODS)
                self.assertNotIn(node.attr, NOT_NAMES)

    def test_forms_that_are_held_narrower(self):
        self.hold_each_file(self.hold_forms_that_are_held_narrower)

    def hold_forms_that_are_held_narrower(self, text, tree):
        walked_at_once = places_to_walk(tree)
        for node in ast.walk(tree):
            where = (type(node).__name__, getattr(node, "lineno", None))
            if isinstance(node, ast.Compare) and isinstance(node.ops[0], (ast.Is, ast.IsNot)):
                self.assertIn(ast.unparse(node.comparators[0]), ("None", "True", "False"), where)
            if isinstance(node, ast.BinOp) and isinstance(node.op, ast.Pow):
                self.assertIn(ast.unparse(node.right), [str(exponent) for exponent in range(65)], where)
            if called(node) in ("zip", "enumerate", "reversed", "range"):
                self.assertIn(node, walked_at_once, where)
            if called(node) == "set":
                self.assertIn(node, [other.args[0] for other in ast.walk(tree) if called(other) in ("sorted", "len")])

    def test_no_two_files_draw_from_one_another(self):
        drawn = {}
        for path in PACKAGE.glob("*.py"):
            tree = ast.parse(path.read_text(encoding="utf-8"))
            drawn[path.stem] = {node.module.split(".")[1] for node in tree.body if isinstance(node, ast.ImportFrom)}
        done = set()
        while len(done) < len(drawn):
            ready = {name for name in drawn if name not in done and drawn[name] <= done}
            self.assertTrue(ready, "some files draw from one another")
            done |= ready

    def test_names_are_drawn_from_the_file_that_defines_them(self):
        self.hold_each_file(self.hold_names_are_drawn_from_the_file_that_defines_them)

    def hold_names_are_drawn_from_the_file_that_defines_them(self, text, tree):
        for node in tree.body:
            if isinstance(node, ast.ImportFrom):
                source = ast.parse((PACKAGE / (node.module.split(".")[1] + ".py")).read_text(encoding="utf-8"))
                defined = [name for other in source.body for name in bound_names(other)]
                for alias in node.names:
                    self.assertIn(alias.name, defined)


if __name__ == "__main__":
    unittest.main()
