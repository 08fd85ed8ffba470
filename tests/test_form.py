"""The package keeps to the part of Python that the program is written in, as far as a walk of its files shows."""

import ast
import builtins
import re
import unittest
from pathlib import Path

PACKAGE = Path(__file__).resolve().parent.parent / "taglook"

NODES = (
    ast.Module, ast.ImportFrom, ast.alias, ast.FunctionDef, ast.ClassDef, ast.Lambda, ast.arguments, ast.arg,
    ast.Assign, ast.AugAssign, ast.If, ast.While, ast.For, ast.Return, ast.Break, ast.Continue, ast.Pass, ast.Raise,
    ast.Try, ast.ExceptHandler, ast.Expr, ast.Name, ast.Constant, ast.List, ast.Tuple, ast.Dict, ast.Set,
    ast.BinOp, ast.UnaryOp, ast.BoolOp, ast.Compare, ast.IfExp, ast.Call, ast.keyword, ast.Attribute, ast.Subscript,
    ast.Slice, ast.ListComp, ast.comprehension, ast.JoinedStr, ast.FormattedValue, ast.expr_context, ast.operator,
    ast.unaryop, ast.boolop, ast.cmpop,
)
OWN_NAMES = set(
    "len range enumerate zip min max sum abs sorted reversed int str bool list tuple dict set frozenset isinstance "
    "ord repr any all divmod Exception ValueError TypeError KeyError IndexError LookupError ZeroDivisionError "
    "ArithmeticError OverflowError RuntimeError NotImplementedError AttributeError StopIteration".split()
)
METHODS = set(
    "append clear copy count endswith extend find get index insert isalnum isalpha isdigit islower isspace isupper "
    "items join keys ljust lower lstrip partition pop remove replace reverse rfind rjust rpartition rsplit rstrip "
    "setdefault split splitlines startswith strip update upper values zfill bit_length".split()
)
OUT_WORDS = re.compile(
    r"\b(type|typing|typing_extensions|enum|Enum|IntEnum|StrEnum|Flag|IntFlag|Generic|Protocol|ABC|ABCMeta|namedtuple"
    r"|NamedTuple|TypedDict|TYPE_CHECKING|abstractmethod)\b|dataclass|overload|contextmanager"
)
DUNDERS = ("__init__", "__eq__", "__repr__", "__str__", "__len__")


def files():
    return sorted(PACKAGE.rglob("*.py"))


def trees():
    return [(path, ast.parse(path.read_text())) for path in files()]


def nodes_of(kinds):
    return [(path, node) for path, tree in trees() for node in ast.walk(tree) if isinstance(node, kinds)]


def bound_names():
    """Names that the package gives itself: functions, classes, parameters, locals, imports."""
    names = [node.name for path, node in nodes_of((ast.FunctionDef, ast.ClassDef))]
    names += [node.arg for path, node in nodes_of(ast.arg)]
    names += [node.id for path, node in nodes_of(ast.Name) if isinstance(node.ctx, ast.Store)]
    return names


def own_attributes():
    stored = [node.attr for path, node in nodes_of(ast.Attribute) if isinstance(node.ctx, ast.Store)]
    return set(stored) | {node.name for path, node in nodes_of(ast.FunctionDef)}


class Form(unittest.TestCase):
    def test_files_and_signs(self):
        self.assertTrue(files())
        for path in PACKAGE.rglob("*"):
            if "__pycache__" not in path.parts:
                self.assertRegex(path.name, r"^[a-z0-9_]+\.py$")
        for path in files():
            self.assertRegex(path.read_text(), r"\A[ -~\n]*\Z", path)

    def test_sizes(self):
        for path in files():
            lines = path.read_text().splitlines()
            self.assertLessEqual(len(lines), 400, path)
            self.assertLessEqual(max(len(line) for line in lines), 120, path)
        for path, node in nodes_of(ast.FunctionDef):
            self.assertLessEqual(node.end_lineno - node.lineno + 1, 40, (path, node.name))

    def test_parts_of_the_language(self):
        for path, tree in trees():
            for node in ast.walk(tree):
                self.assertIsInstance(node, NODES, (path, getattr(node, "lineno", None)))
        for path, node in nodes_of((ast.FunctionDef, ast.ClassDef)):
            self.assertEqual(node.decorator_list, [], path)
        for path, node in nodes_of((ast.For, ast.While)):
            self.assertEqual(node.orelse, [], path)
        for path, node in nodes_of(ast.ListComp):
            self.assertEqual(len(node.generators), 1, path)
            self.assertLessEqual(len(node.generators[0].ifs), 1, path)
        for path, node in nodes_of((ast.Div, ast.MatMult, ast.Starred)):
            self.fail((path, node))

    def test_values(self):
        for path, node in nodes_of(ast.Constant):
            self.assertIn(type(node.value), (int, str, bool, type(None)), path)
            self.assertNotIn("%", str(node.value), path)

    def test_a_call_is_the_one_bare_expression(self):
        for path, tree in trees():
            for node in ast.walk(tree):
                if isinstance(node, ast.Expr) and node is not tree.body[0]:
                    self.assertIsInstance(node.value, ast.Call, (path, node.lineno))

    def test_imports(self):
        modules = {"taglook." + path.stem for path in files()}
        for path, node in nodes_of(ast.ImportFrom):
            self.assertEqual(node.level, 0, path)
            self.assertIn(node.module, modules, path)
            self.assertNotIn("*", [alias.name for alias in node.names], path)

    def test_names(self):
        for name in bound_names():
            self.assertTrue(name in DUNDERS or re.fullmatch("[A-Za-z][A-Za-z0-9_]*", name), name)
        for name in set(bound_names()) - own_attributes():
            self.assertFalse(hasattr(builtins, name), name)
        for path, node in nodes_of(ast.Name):
            if hasattr(builtins, node.id):
                self.assertIn(node.id, OWN_NAMES, (path, node.lineno))

    def test_methods(self):
        for path, node in nodes_of(ast.Attribute):
            self.assertIn(node.attr, METHODS | own_attributes() | set(DUNDERS), (path, node.lineno))

    def test_words_that_stand_nowhere(self):
        for path in files():
            self.assertIsNone(OUT_WORDS.search(path.read_text()), path)

    def test_is_stands_beside_none_and_truths_alone(self):
        for path, node in nodes_of(ast.Compare):
            for operator, right in zip(node.ops, node.comparators):
                if isinstance(operator, (ast.Is, ast.IsNot)):
                    self.assertIsInstance(right, ast.Constant, (path, node.lineno))

    def test_no_name_is_a_method_here_and_a_value_there(self):
        methods = {
            inner.name for path, node in nodes_of(ast.ClassDef) for inner in node.body
            if isinstance(inner, ast.FunctionDef)
        }
        stored = {node.attr for path, node in nodes_of(ast.Attribute) if isinstance(node.ctx, ast.Store)}
        self.assertEqual(methods & stored, set())


if __name__ == "__main__":
    unittest.main()
