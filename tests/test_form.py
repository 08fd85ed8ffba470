"""The package keeps to the part of Python that the program is written in, as far as a walk of its files shows."""

import ast
import builtins
import re
import unittest
from functools import cache
from pathlib import Path

PACKAGE = Path(__file__).resolve().parent.parent / "taglook"

NODES = (
    ast.Module, ast.ImportFrom, ast.alias, ast.FunctionDef, ast.ClassDef, ast.Lambda, ast.arguments, ast.arg,
    ast.Assign, ast.AugAssign, ast.If, ast.While, ast.For, ast.Return, ast.Break, ast.Continue, ast.Pass, ast.Raise,
    ast.Try, ast.ExceptHandler, ast.Expr, ast.Name, ast.Constant, ast.List, ast.Tuple, ast.Dict, ast.Set,
    ast.BinOp, ast.UnaryOp, ast.BoolOp, ast.Compare, ast.IfExp, ast.Call, ast.keyword, ast.Attribute, ast.Subscript,
    ast.Slice, ast.ListComp, ast.comprehension, ast.JoinedStr, ast.FormattedValue, ast.expr_context, ast.operator,
    ast.unaryop, ast.boolop, ast.cmpop,
)
OWN_NAMES = set(
    "len range enumerate zip min max sum abs sorted reversed int str bool list tuple dict set frozenset isinstance "
    "ord repr any all divmod Exception ValueError TypeError KeyError IndexError LookupError ZeroDivisionError "
    "ArithmeticError OverflowError RuntimeError NotImplementedError AttributeError StopIteration".split()
)
METHODS = set(
    "append clear copy count endswith extend find get index insert isalnum isalpha isdigit islower isspace isupper "
    "items join keys ljust lower lstrip partition pop remove replace reverse rfind rjust rpartition rsplit rstrip "
    "setdefault split splitlines startswith strip update upper values zfill bit_length".split()
)
OUT_WORDS = re.compile(
    r"\b(type|typing|typing_extensions|enum|Enum|IntEnum|StrEnum|Flag|IntFlag|Generic|Protocol|ABC|ABCMeta|namedtuple"
    r"|NamedTuple|TypedDict|TYPE_CHECKING|abstractmethod)\b|dataclass|overload|contextmanager"
)
DUNDERS = ("__init__", "__eq__", "__repr__", "__str__", "__len__")
WALKS = ("zip", "enumerate", "reversed", "range")
DICT_WALKS = ("items", "keys", "values")
WALKERS = ("list", "tuple", "dict", "sorted", "sum", "any", "all", "enumerate", "zip", "min", "max")
NOT_VALUES = set("items keys values pop update append clear extend insert remove reverse setdefault sort args".split())
MAY_BE_VALUES = set("count index title find get join lower upper split strip copy add".split())
PYTHONS_TAKEN = ("KeyError", "ZeroDivisionError", "StopIteration", "ValueError", "LookupError", "IndexError")


def files():
    return sorted(PACKAGE.rglob("*.py"))


@cache
def trees():
    return [(path, ast.parse(path.read_text())) for path in files()]


@cache
def all_nodes():
    return [(path, node) for path, tree in trees() for node in ast.walk(tree)]


def nodes_of(kinds):
    return [(path, node) for path, node in all_nodes() if isinstance(node, kinds)]


def bound_names():
    """Names that the package gives itself: functions, classes, parameters, locals, imports."""
    names = [node.name for path, node in nodes_of((ast.FunctionDef, ast.ClassDef))]
    names += [node.arg for path, node in nodes_of(ast.arg)]
    names += [node.id for path, node in nodes_of(ast.Name) if isinstance(node.ctx, ast.Store)]
    return names


def links_of(tree):
    """Each node of a tree with the node in which it stands."""
    return [(node, above) for above in ast.walk(tree) for node in ast.iter_child_nodes(above)]


def all_links():
    return [(path, node, above) for path, tree in trees() for node, above in links_of(tree)]


def called(node):
    """The name of the function or method that a node calls, or None."""
    if not isinstance(node, ast.Call):
        return None
    return node.func.id if isinstance(node.func, ast.Name) else getattr(node.func, "attr", None)


@cache
def methods_of_the_package():
    inner = [part for path, node in nodes_of(ast.ClassDef) for part in node.body]
    return {part.name for part in inner if isinstance(part, ast.FunctionDef)}


@cache
def values_of_the_package():
    return {node.attr for path, node in nodes_of(ast.Attribute) if isinstance(node.ctx, ast.Store)}


@cache
def classes_of_the_package():
    return {node.name for path, node in nodes_of(ast.ClassDef)}


@cache
def own_attributes():
    stored = [node.attr for path, node in nodes_of(ast.Attribute) if isinstance(node.ctx, ast.Store)]
    return set(stored) | {node.name for path, node in nodes_of(ast.FunctionDef)}


class Form(unittest.TestCase):
    def test_files_and_signs(self):
        self.assertTrue(files())
        for path in PACKAGE.rglob("*"):
            if "__pycache__" not in path.parts:
                self.assertRegex(path.name, r"^[a-z0-9_]+\.py$")
        for path in files():
            self.assertRegex(path.read_text(), r"\A[ -~\n]*\Z", path)

    def test_sizes(self):
        for path in files():
            lines = path.read_text().splitlines()
            self.assertLessEqual(len(lines), 400, path)
            self.assertLessEqual(max(len(line) for line in lines), 120, path)
        for path, node in nodes_of(ast.FunctionDef):
            self.assertLessEqual(node.end_lineno - node.lineno + 1, 40, (path, node.name))

    def test_parts_of_the_language(self):
        for path, tree in trees():
            for node in ast.walk(tree):
                self.assertIsInstance(node, NODES, (path, getattr(node, "lineno", None)))
        for path, node in nodes_of((ast.FunctionDef, ast.ClassDef)):
            self.assertEqual(node.decorator_list, [], path)
        for path, node in nodes_of((ast.For, ast.While)):
            self.assertEqual(node.orelse, [], path)
        for path, node in nodes_of(ast.ListComp):
            self.assertEqual(len(node.generators), 1, path)
            self.assertLessEqual(len(node.generators[0].ifs), 1, path)
        for path, node in nodes_of((ast.Div, ast.MatMult, ast.Starred)):
            self.fail((path, node))

    def test_values(self):
        for path, node in nodes_of(ast.Constant):
            self.assertIn(type(node.value), (int, str, bool, type(None)), path)
            self.assertNotIn("%", str(node.value), path)

    def test_a_call_is_the_one_bare_expression(self):
        for path, tree in trees():
            for node in ast.walk(tree):
                if isinstance(node, ast.Expr) and node is not tree.body[0]:
                    self.assertIsInstance(node.value, ast.Call, (path, node.lineno))

    def test_imports(self):
        modules = {"taglook." + path.stem for path in files()}
        for path, node in nodes_of(ast.ImportFrom):
            self.assertEqual(node.level, 0, path)
            self.assertIn(node.module, modules, path)
            self.assertNotIn("*", [alias.name for alias in node.names], path)

    def test_names(self):
        for name in bound_names():
            self.assertTrue(name in DUNDERS or re.fullmatch("[A-Za-z][A-Za-z0-9_]*", name), name)
        for name in set(bound_names()) - own_attributes():
            self.assertFalse(hasattr(builtins, name), name)
        for path, node in nodes_of(ast.Name):
            if hasattr(builtins, node.id):
                self.assertIn(node.id, OWN_NAMES, (path, node.lineno))

    def test_methods(self):
        for path, node in nodes_of(ast.Attribute):
            self.assertIn(node.attr, METHODS | own_attributes() | set(DUNDERS), (path, node.lineno))

    def test_words_that_stand_nowhere(self):
        for path in files():
            self.assertIsNone(OUT_WORDS.search(path.read_text()), path)

    def test_is_stands_beside_none_and_truths_alone(self):
        for path, node in nodes_of(ast.Compare):
            for operator, right in zip(node.ops, node.comparators):
                if isinstance(operator, (ast.Is, ast.IsNot)):
                    self.assertIsInstance(right, ast.Constant, (path, node.lineno))

    def test_no_name_is_a_method_here_and_a_value_there(self):
        self.assertEqual(methods_of_the_package() & values_of_the_package(), set())

    def test_names_of_own_methods_and_values(self):
        pythons = {name for one in ("", 0, [], {}, set(), b"") for name in dir(one)} - set(DUNDERS)
        self.assertEqual(methods_of_the_package() & (pythons - METHODS - {"add", "discard"}), set())
        self.assertEqual(values_of_the_package() & (NOT_VALUES | (pythons - MAY_BE_VALUES)), set())


class FormOfFiles(unittest.TestCase):
    def test_the_top_of_a_file(self):
        for path, tree in trees():
            bound = []
            for node in tree.body[1:]:
                self.assertIsInstance(node, (ast.ImportFrom, ast.FunctionDef, ast.ClassDef, ast.Assign), path)
                if isinstance(node, ast.ImportFrom):
                    bound += [alias.asname or alias.name for alias in node.names]
                elif isinstance(node, ast.Assign):
                    bound += [target.id for target in node.targets]
                else:
                    bound.append(node.name)
            self.assertEqual(len(bound), len(set(bound)), path)
            self.assertIsNotNone(ast.get_docstring(tree), path)

    def test_lists_and_dicts_of_a_files_top_hold_no_lists(self):
        for path, tree in trees():
            for node in tree.body:
                if isinstance(node, ast.Assign):
                    inner = [part for part in ast.walk(node.value) if isinstance(part, (ast.List, ast.Dict))]
                    self.assertTrue(all(part is node.value for part in inner), (path, node.lineno))

    def test_names_are_drawn_from_the_file_that_defines_them(self):
        for path, node in nodes_of(ast.ImportFrom):
            source = ast.parse((PACKAGE / (node.module.split(".")[1] + ".py")).read_text())
            defined = {part.name for part in source.body if isinstance(part, (ast.FunctionDef, ast.ClassDef))}
            for alias in node.names:
                self.assertIn(alias.name, defined, (path, node.lineno))
                self.assertIsNone(alias.asname, (path, node.lineno))

    def test_no_two_files_draw_from_one_another(self):
        drawn = {"taglook." + path.stem: set() for path in files()}
        for path, node in nodes_of(ast.ImportFrom):
            drawn["taglook." + path.stem].add(node.module)
        while drawn:
            last = [name for name in drawn if not drawn[name] & set(drawn)]
            self.assertTrue(last, drawn)
            for name in last:
                drawn.pop(name)

    def test_locals_are_not_called_like_classes_imports_or_pythons_names(self):
        for path, tree in trees():
            top = {part.name for part in tree.body if isinstance(part, ast.ClassDef)}
            for part in tree.body:
                if isinstance(part, ast.ImportFrom):
                    top |= {alias.name for alias in part.names}
            names = {node.arg for node in ast.walk(tree) if isinstance(node, ast.arg)}
            names |= {node.id for node in ast.walk(tree) if isinstance(node, ast.Name) and isinstance(node.ctx, ast.Store)}
            names |= {node.name for node in ast.walk(tree) if isinstance(node, ast.ExceptHandler)}
            self.assertEqual(names & top, set(), path)
            self.assertEqual({name for name in names if name and hasattr(builtins, name)}, set(), path)


class FormOfSteps(unittest.TestCase):
    def test_one_target_and_no_annotations(self):
        for path, node in nodes_of(ast.Assign):
            self.assertEqual(len(node.targets), 1, (path, node.lineno))
            self.assertNotIsInstance(node.targets[0], (ast.Tuple, ast.List), (path, node.lineno))
        for path, node in nodes_of(ast.FunctionDef):
            self.assertIsNone(node.returns, (path, node.lineno))
        for path, node in nodes_of(ast.arg):
            self.assertIsNone(node.annotation, (path, node.lineno))

    def test_plain_parameters(self):
        for path, node in nodes_of(ast.arguments):
            self.assertEqual((node.vararg, node.kwarg, node.kwonlyargs, node.posonlyargs), (None, None, [], []), path)
            for default in node.defaults:
                self.assertIsInstance(default, ast.Constant, path)

    def test_classes_are_called_or_stand_where_they_may(self):
        classes = classes_of_the_package()
        for path, node, above in all_links():
            if isinstance(node, ast.Name) and node.id in classes:
                good = (
                    (isinstance(above, ast.Call) and (above.func is node or called(above) == "isinstance"))
                    or isinstance(above, (ast.ClassDef, ast.ExceptHandler))
                    or (isinstance(above, ast.Attribute) and above.attr == "__init__")
                )
                self.assertTrue(good, (path, node.lineno))

    def test_errors_taken_and_raised(self):
        for path, node in nodes_of(ast.ExceptHandler):
            taken = node.type.elts if isinstance(node.type, ast.Tuple) else [node.type]
            for one in taken:
                self.assertIn(one.id, classes_of_the_package() | set(PYTHONS_TAKEN), (path, node.lineno))
        for path, node in nodes_of(ast.Raise):
            self.assertIsInstance(node.exc, ast.Call, (path, node.lineno))

    def test_methods_are_called_where_they_stand(self):
        methods = METHODS | methods_of_the_package()
        for path, node, above in all_links():
            if isinstance(node, ast.Attribute) and node.attr in methods - values_of_the_package():
                self.assertTrue(isinstance(above, ast.Call) and above.func is node, (path, node.lineno))

    def test_pythons_own_functions_are_called(self):
        for path, node, above in all_links():
            if isinstance(node, ast.Name) and hasattr(builtins, node.id):
                beside = isinstance(above, (ast.Call, ast.Tuple, ast.keyword, ast.ClassDef, ast.ExceptHandler))
                self.assertTrue(beside, (path, node.lineno))

    def test_keywords_at_pythons_own(self):
        known = {
            "sorted": {"key", "reverse"}, "min": {"key", "default"}, "max": {"key", "default"},
            "sum": {"start"}, "enumerate": {"start"}, "zip": {"strict"},
        }
        classes = classes_of_the_package()
        for path, node in nodes_of(ast.Call):
            keywords = {keyword.arg for keyword in node.keywords}
            if called(node) in METHODS | classes or hasattr(builtins, called(node) or "-"):
                self.assertLessEqual(keywords, known.get(called(node), set()), (path, node.lineno))

    def test_walks_are_walked_on_the_spot(self):
        for path, node, above in all_links():
            plain = isinstance(node, ast.Call) and isinstance(node.func, ast.Name) and node.func.id in WALKS
            if plain or called(node) in DICT_WALKS:
                walked = isinstance(above, (ast.For, ast.comprehension)) and above.iter is node
                self.assertTrue(walked or called(above) in WALKERS + ("join",), (path, node.lineno))

    def test_what_a_loop_walks_is_not_changed_in_it(self):
        changes = ("append", "clear", "extend", "insert", "pop", "remove", "reverse", "setdefault", "update")
        for path, loop in nodes_of(ast.For):
            walked = {ast.unparse(part) for part in ast.walk(loop.iter) if isinstance(part, (ast.Name, ast.Attribute))}
            for node in [part for step in loop.body for part in ast.walk(step)]:
                if called(node) in changes and isinstance(node.func, ast.Attribute):
                    self.assertNotIn(ast.unparse(node.func.value), walked, (path, node.lineno))
                if isinstance(node, ast.Subscript) and isinstance(node.ctx, ast.Store):
                    self.assertNotIn(ast.unparse(node.value), walked, (path, node.lineno))

    def test_sets_are_neither_kept_nor_walked(self):
        for path, node, above in all_links():
            if called(node) in ("set", "frozenset"):
                beside = isinstance(above, (ast.Compare, ast.BinOp)) or called(above) in ("sorted", "len")
                self.assertTrue(beside, (path, node.lineno))

    def test_no_powers_and_nothing_on_the_way_to_a_float(self):
        for path, node in nodes_of((ast.Pow, ast.Mod)):
            self.fail((path, node))
        for path, node in nodes_of(ast.JoinedStr):
            for part in node.values:
                plain = isinstance(part, ast.Constant) or (
                    isinstance(part.value, ast.Name) and part.format_spec is None and part.conversion in (-1, ord("r"))
                )
                self.assertTrue(plain, (path, node.lineno))

    def test_lists_and_dicts_of_a_files_top_are_only_read(self):
        for path, tree in trees():
            kept = {
                node.targets[0].id for node in tree.body
                if isinstance(node, ast.Assign) and isinstance(node.value, (ast.List, ast.Dict))
            }
            for node, above in links_of(tree):
                if isinstance(node, ast.Name) and node.id in kept and isinstance(node.ctx, ast.Load):
                    read = isinstance(above, (ast.Subscript, ast.For, ast.comprehension, ast.Compare)) or (
                        isinstance(above, ast.Attribute) and above.attr in ("get", "items", "keys", "values")
                    ) or called(above) in ("len", "list", "dict", "sorted")
                    self.assertTrue(read and not isinstance(getattr(above, "ctx", None), ast.Store), (path, node.lineno))


if __name__ == "__main__":
    unittest.main()
