"""Those rules of the program's language that can be seen in its text."""

import ast
import builtins
import re
import unittest
from pathlib import Path

PACKAGE = Path(__file__).resolve().parent.parent / "folk"

NODES = set("""
Module FunctionDef ClassDef arguments arg ImportFrom alias Assign AugAssign If While For Return Break Continue Pass
Raise Try ExceptHandler Expr Constant List Tuple Dict Set BinOp UnaryOp BoolOp Compare IfExp Call Attribute Subscript
Slice ListComp comprehension JoinedStr FormattedValue Name Lambda keyword Load Store
Add Sub Mult FloorDiv Mod Pow BitAnd BitOr BitXor Invert LShift RShift USub UAdd And Or Not
Eq NotEq Lt LtE Gt GtE Is IsNot In NotIn
""".split())

BUILTINS = set("""
len range enumerate zip min max sum abs sorted reversed int str bool list tuple dict set frozenset isinstance ord repr
any all divmod Exception ValueError TypeError KeyError IndexError LookupError ZeroDivisionError ArithmeticError
OverflowError RuntimeError NotImplementedError AttributeError StopIteration
""".split())

OWN_METHODS = {"__init__", "__eq__", "__repr__", "__str__", "__len__"}

UNUSED = set("""
register mro elements open input version_info with_traceback add_note attrgetter breakpoint builtins compile copyright
credits delattr dir eval exec exit gc getattr globals hasattr help id importlib license locals methodcaller os quit
setattr super type vars sys format format_map
""".split())

WORDS = re.compile(r"\b(type|typing|typing_extensions|enum|Enum|IntEnum|StrEnum|Flag|IntFlag|Generic|Protocol|ABC|ABCMeta"
                   r"|namedtuple|NamedTuple|TypedDict|TYPE_CHECKING|abstractmethod)\b|dataclass|overload|contextmanager")

PYTHON_METHODS = {name for kind in (str, int, list, dict, set, tuple, bytes) for name in dir(kind)}

METHODS = set("""
append clear copy count endswith extend find get index insert isalnum isalpha isdigit islower isspace isupper items join
keys ljust lower lstrip partition pop remove replace reverse rfind rjust rpartition rsplit rstrip setdefault split
splitlines startswith strip update upper values zfill bit_length
""".split())


def files():
    return sorted(path for path in PACKAGE.rglob("*") if path.is_file() and "__pycache__" not in path.parts)


def trees():
    return [(path.name, ast.parse(path.read_text(encoding="utf-8"))) for path in files()]


def walked():
    for name, tree in trees():
        for node in ast.walk(tree):
            yield f"{name}:{getattr(node, 'lineno', 0)}", node


def held_names(tree):
    """The classes and imports of a file: no parameter and no local is called so."""
    names = [node.name for node in tree.body if isinstance(node, ast.ClassDef)]
    for node in tree.body:
        if isinstance(node, ast.ImportFrom):
            names.extend(alias.name for alias in node.names)
    return names


def named_call(node, names):
    return isinstance(node, ast.Call) and isinstance(node.func, ast.Name) and node.func.id in names


def bound_names(node):
    if isinstance(node, (ast.FunctionDef, ast.ClassDef)):
        return [node.name]
    if isinstance(node, ast.arg):
        return [node.arg]
    if isinstance(node, ast.Name) and isinstance(node.ctx, ast.Store):
        return [node.id]
    if isinstance(node, ast.alias):
        return [node.asname or node.name]
    if isinstance(node, ast.ExceptHandler) and node.name:
        return [node.name]
    return []


class TestLanguage(unittest.TestCase):
    def test_files_have_plain_names(self):
        self.assertIn("__init__.py", [path.name for path in files()])
        for path in files():
            self.assertRegex(path.name, r"^([a-z][a-z0-9_]*|__init__)\.py$")

    def test_signs_and_sizes(self):
        for path in files():
            text = path.read_text(encoding="utf-8")
            self.assertRegex(text, r"\A[ -~\n]*\Z", path.name)
            rows = text.split("\n")
            self.assertLessEqual(len(rows), 400, path.name)
            self.assertLessEqual(max(len(row) for row in rows), 120, path.name)
            self.assertIsNone(WORDS.search(text), path.name)

    def test_functions_are_short(self):
        for place, node in walked():
            if isinstance(node, ast.FunctionDef):
                self.assertLessEqual(node.end_lineno - node.lineno + 1, 40, place)

    def test_only_what_is_allowed_stands_there(self):
        for place, node in walked():
            self.assertIn(type(node).__name__, NODES, place)

    def test_functions_and_classes_are_plain(self):
        for place, node in walked():
            if isinstance(node, (ast.FunctionDef, ast.ClassDef)):
                self.assertEqual(node.decorator_list, [], place)
            if isinstance(node, ast.ClassDef):
                self.assertLessEqual(len(node.bases), 1, place)
                for row in node.body:
                    self.assertIsInstance(row, (ast.FunctionDef, ast.Pass), place)
            if isinstance(node, ast.arguments):
                self.assertFalse(node.vararg or node.kwarg or node.kwonlyargs or node.posonlyargs, place)

    def test_statements_are_plain(self):
        for place, node in walked():
            if isinstance(node, ast.Assign):
                self.assertEqual(len(node.targets), 1, place)
            if isinstance(node, (ast.For, ast.While)):
                self.assertEqual(node.orelse, [], place)
            if isinstance(node, ast.Try):
                self.assertEqual(node.finalbody, [], place)
            if isinstance(node, ast.ListComp):
                self.assertEqual(len(node.generators), 1, place)
                self.assertLessEqual(len(node.generators[0].ifs), 1, place)

    def test_rows_that_stand_by_themselves_are_calls(self):
        for name, tree in trees():
            told = [node for node in ast.walk(tree) if isinstance(node, ast.Expr)]
            self.assertIs(told[0], tree.body[0], name)
            for node in told[1:]:
                self.assertIsInstance(node.value, ast.Call, f"{name}:{node.lineno}")

    def test_is_stands_beside_none_and_truths(self):
        for place, node in walked():
            if isinstance(node, ast.Compare) and isinstance(node.ops[0], (ast.Is, ast.IsNot)):
                self.assertIsInstance(node.comparators[0], ast.Constant, place)
                self.assertIn(node.comparators[0].value, (None, True, False), place)

    def test_what_is_walked_at_once_is_not_kept(self):
        for place, node in walked():
            if isinstance(node, (ast.Assign, ast.Return)):
                self.assertFalse(named_call(node.value, ("zip", "enumerate", "reversed", "range", "set")), place)

    def test_a_set_is_sorted_counted_or_asked_on_the_spot(self):
        for name, tree in trees():
            allowed = set()
            for node in ast.walk(tree):
                if named_call(node, ("sorted", "len")) or isinstance(node, ast.Compare):
                    parts = node.args if isinstance(node, ast.Call) else [node.left] + node.comparators
                    while parts:
                        part = parts[0]
                        parts = parts[1:]
                        allowed.add(part)
                        if isinstance(part, ast.BinOp):
                            parts = parts + [part.left, part.right]
            for node in ast.walk(tree):
                if named_call(node, ("set", "frozenset")):
                    self.assertIn(node, allowed, f"{name}:{node.lineno}")

    def test_no_parameter_and_no_local_is_called_like_a_class_or_an_import(self):
        for name, tree in trees():
            held = held_names(tree)
            for node in ast.walk(tree):
                if isinstance(node, (ast.arg, ast.Name)) and not isinstance(getattr(node, "ctx", None), ast.Load):
                    for bound in bound_names(node):
                        self.assertNotIn(bound, held, f"{name}:{node.lineno}")

    def test_a_name_is_bound_once_at_a_files_top(self):
        for name, tree in trees():
            bound = []
            for row in tree.body:
                nodes = [row] if isinstance(row, (ast.FunctionDef, ast.ClassDef)) else list(ast.walk(row))
                bound.extend(told for node in nodes for told in bound_names(node))
            self.assertEqual(len(bound), len(set(bound)), name)

    def test_no_name_is_a_method_here_and_a_value_there(self):
        methods = set()
        values = set()
        for _, node in walked():
            if isinstance(node, ast.ClassDef):
                methods.update(row.name for row in node.body if isinstance(row, ast.FunctionDef))
            if isinstance(node, ast.Attribute) and isinstance(node.ctx, ast.Store):
                values.add(node.attr)
        self.assertEqual(methods & values, set())

    def test_values_are_plain(self):
        for place, node in walked():
            if isinstance(node, ast.Constant):
                self.assertIn(type(node.value), (int, str, bool, type(None)), place)
                if isinstance(node.value, str):
                    self.assertNotIn("%", node.value, place)
            if isinstance(node, ast.FormattedValue):
                self.assertIsInstance(node.value, ast.Name, place)
                self.assertIsNone(node.format_spec, place)

    def test_imports_are_the_packages_own_and_go_one_way(self):
        drawn = {}
        for name, tree in trees():
            module = "folk." + name[:-3]
            drawn[module] = [row.module for row in tree.body if isinstance(row, ast.ImportFrom)]
            inner = [node for node in ast.walk(tree) if isinstance(node, ast.ImportFrom)]
            self.assertEqual(len(drawn[module]), len(inner), name)
        while drawn:
            free = [module for module, others in drawn.items() if not set(others) & set(drawn)]
            self.assertNotEqual(free, [], drawn)
            for module in free:
                for other in drawn.pop(module):
                    self.assertRegex(other, r"^folk\.[a-z0-9_]+$")

    def test_names_are_plain_and_none_of_pythons_own(self):
        for place, node in walked():
            for name in bound_names(node):
                if name not in OWN_METHODS:
                    self.assertRegex(name, r"^[A-Za-z][A-Za-z0-9_]*$", place)
                if not isinstance(node, ast.FunctionDef):
                    self.assertFalse(hasattr(builtins, name), place)
                self.assertNotIn(name, UNUSED, place)

    def test_pythons_own_names_are_those_of_the_list(self):
        for place, node in walked():
            if isinstance(node, ast.Name) and hasattr(builtins, node.id):
                self.assertIn(node.id, BUILTINS, place)

    def test_methods_are_those_of_the_list(self):
        for place, node in walked():
            if isinstance(node, ast.Attribute):
                self.assertNotIn(node.attr, UNUSED, place)
                if node.attr in PYTHON_METHODS - OWN_METHODS:
                    self.assertIn(node.attr, METHODS | {"add", "discard", "title"}, place)


if __name__ == "__main__":
    unittest.main()
