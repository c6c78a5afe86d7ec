"""The package keeps to its part of the language: some of the rules L1 to L28, not all of them."""

import ast
import builtins
import re
import unittest
from pathlib import Path

PACKAGE = Path(__file__).resolve().parent.parent / "fairdraw"
OWN_NAMES = set(
    "len range enumerate zip min max sum abs sorted reversed int str bool list tuple dict set frozenset isinstance "
    "ord repr any all divmod Exception ValueError TypeError KeyError IndexError LookupError ZeroDivisionError "
    "ArithmeticError OverflowError RuntimeError NotImplementedError AttributeError StopIteration".split()
)
METHODS = set(
    "append clear copy count endswith extend find get index insert isalnum isalpha isdigit islower isspace isupper "
    "items join keys ljust lower lstrip partition pop remove replace reverse rfind rjust rpartition rsplit rstrip "
    "setdefault split splitlines startswith strip update upper values zfill bit_length __init__".split()
)
PYTHON_VALUES = ("", 0, [], (), {}, set(), b"")
FREE_METHODS = METHODS | {"add", "discard"}
FREE_VALUES = set("count index title find get join lower upper split strip copy add".split())
SPECIAL = {"__init__", "__eq__", "__repr__", "__str__", "__len__"}
WORDS = re.compile(
    r"\b(type|typing|typing_extensions|enum|Enum|IntEnum|StrEnum|Flag|IntFlag|Generic|Protocol|ABC|ABCMeta|namedtuple"
    r"|NamedTuple|TypedDict|TYPE_CHECKING|abstractmethod)\b|dataclass|overload|contextmanager"
)
STATEMENTS = (
    ast.Module, ast.FunctionDef, ast.ClassDef, ast.ImportFrom, ast.Assign, ast.AugAssign, ast.If, ast.While, ast.For,
    ast.Return, ast.Break, ast.Continue, ast.Pass, ast.Raise, ast.Try, ast.ExceptHandler, ast.Expr,
)
EXPRESSIONS = (
    ast.Constant, ast.List, ast.Tuple, ast.Dict, ast.Set, ast.BinOp, ast.UnaryOp, ast.BoolOp, ast.Compare, ast.IfExp,
    ast.Call, ast.Attribute, ast.Subscript, ast.Slice, ast.ListComp, ast.JoinedStr, ast.FormattedValue, ast.Name,
    ast.Lambda,
)
SMALL_PARTS = (
    ast.operator, ast.unaryop, ast.boolop, ast.cmpop, ast.expr_context, ast.arguments, ast.arg, ast.keyword,
    ast.alias, ast.comprehension,
)

WALKED_AT_ONCE = {"zip", "enumerate", "reversed", "range", "items", "keys", "values"}
WALKING = {"list", "tuple", "dict", "sorted", "sum", "any", "all", "enumerate", "zip"}
KEYWORDS = {
    "sorted": {"key", "reverse"}, "min": {"key", "default"}, "max": {"key", "default"}, "sum": {"start"},
    "enumerate": {"start"}, "zip": {"strict"},
}


def files():
    return sorted(PACKAGE.rglob("*.py"))


def trees():
    return [(path, ast.parse(path.read_text())) for path in files()]


def module_name(path):
    return ".".join(path.relative_to(PACKAGE.parent).with_suffix("").parts)


def bound_names(tree):
    """All names that a file binds, in whatever place."""
    found = []
    for node in ast.walk(tree):
        if isinstance(node, (ast.FunctionDef, ast.ClassDef)):
            found.append(node.name)
        if isinstance(node, ast.arg):
            found.append(node.arg)
        if isinstance(node, ast.Name) and isinstance(node.ctx, ast.Store):
            found.append(node.id)
        if isinstance(node, ast.alias):
            found.append(node.asname or node.name)
        if isinstance(node, ast.ExceptHandler) and node.name:
            found.append(node.name)
    return found


def top_names(tree):
    found = []
    for node in tree.body:
        if isinstance(node, (ast.FunctionDef, ast.ClassDef)):
            found.append(node.name)
        if isinstance(node, ast.Assign):
            found.extend(target.id for target in node.targets)
    return found


def own_methods(tree):
    """The names of all methods that a file's classes define."""
    found = []
    for node in ast.walk(tree):
        if isinstance(node, ast.ClassDef):
            found.extend(item.name for item in node.body if isinstance(item, ast.FunctionDef))
    return found


def own_values(tree):
    """The names of all values that a file gives to objects."""
    return [
        node.attr for node in ast.walk(tree) if isinstance(node, ast.Attribute) and isinstance(node.ctx, ast.Store)
    ]


def parents(tree):
    """A dict from each node to the one that it stands in."""
    return {child: node for node in ast.walk(tree) for child in ast.iter_child_nodes(node)}


def called_name(node):
    """What a call calls, of a method its last name; None where a node is no call."""
    if not isinstance(node, ast.Call):
        return None
    return node.func.attr if isinstance(node.func, ast.Attribute) else getattr(node.func, "id", None)


class Files(unittest.TestCase):
    def test_nothing_but_modules(self):
        self.assertTrue((PACKAGE / "__init__.py").is_file())
        for path in PACKAGE.rglob("*"):
            if "__pycache__" not in path.parts:
                self.assertRegex(path.name, r"\A[a-z0-9_]+\.py\Z")

    def test_sizes_and_signs(self):
        for path in files():
            text = path.read_text()
            self.assertLessEqual(len(text.splitlines()), 400, path)
            for number, row in enumerate(text.split("\n"), start=1):
                with self.subTest(path=path.name, row=number):
                    self.assertLessEqual(len(row), 120)
                    self.assertRegex(row, r"\A[ -~]*\Z")
                    self.assertIsNone(WORDS.search(row))

    def test_functions_are_short(self):
        for path, tree in trees():
            for node in ast.walk(tree):
                if isinstance(node, ast.FunctionDef):
                    self.assertLessEqual(node.end_lineno - node.lineno + 1, 40, (path.name, node.name))


class Imports(unittest.TestCase):
    def test_from_the_file_that_defines_the_name(self):
        defined = {module_name(path): top_names(tree) for path, tree in trees()}
        for path, tree in trees():
            for node in ast.walk(tree):
                if isinstance(node, ast.ImportFrom):
                    self.assertIn(node, tree.body, path)
                    self.assertEqual(node.level, 0, path)
                    for alias in node.names:
                        self.assertIn(alias.name, defined[node.module], path)

    def test_no_circle(self):
        drawn = {
            module_name(path): [node.module for node in tree.body if isinstance(node, ast.ImportFrom)]
            for path, tree in trees()
        }
        while drawn:
            free = [name for name in drawn if not any(other in drawn for other in drawn[name])]
            self.assertTrue(free, drawn)
            drawn = {name: drawn[name] for name in drawn if name not in free}


class Forms(unittest.TestCase):
    def test_known_forms_alone(self):
        for path, tree in trees():
            for node in ast.walk(tree):
                with self.subTest(path=path.name, row=getattr(node, "lineno", 0)):
                    self.assertIsInstance(node, STATEMENTS + EXPRESSIONS + SMALL_PARTS)
                    self.check_node(node)

    def check_node(self, node):
        if isinstance(node, (ast.FunctionDef, ast.ClassDef)):
            self.assertEqual(node.decorator_list, [])
        if isinstance(node, ast.arguments):
            self.assertIsNone(node.vararg or node.kwarg)
            self.assertEqual(node.kwonlyargs + node.posonlyargs, [])
        if isinstance(node, ast.Assign):
            self.assertEqual([target.__class__ for target in node.targets if isinstance(target, ast.Tuple)], [])
            self.assertEqual(len(node.targets), 1)
        if isinstance(node, (ast.For, ast.While)):
            self.assertEqual(node.orelse, [])
        if isinstance(node, ast.Try):
            self.assertEqual(node.finalbody, [])
        if isinstance(node, (ast.BinOp, ast.AugAssign)):
            self.assertNotIsInstance(node.op, (ast.Div, ast.MatMult))
        if isinstance(node, ast.ListComp):
            self.assertEqual(len(node.generators), 1)
            self.assertLessEqual(len(node.generators[0].ifs), 1)
        if isinstance(node, ast.Compare):
            for sign, thing in zip(node.ops, node.comparators):
                if isinstance(sign, (ast.Is, ast.IsNot)):
                    self.assertIn(ast.unparse(thing), ("None", "True", "False"))
        if isinstance(node, ast.Constant):
            self.assertIn(node.value.__class__.__name__, ("int", "str", "bool", "NoneType"))
            self.assertNotIn("%", str(node.value))

    def test_top_of_a_file(self):
        for path, tree in trees():
            names = top_names(tree)
            self.assertEqual(len(names), len(set(names)), path)
            for node in tree.body[1:]:
                self.assertIsInstance(node, (ast.ImportFrom, ast.FunctionDef, ast.ClassDef, ast.Assign), path)
            self.assertIsNotNone(ast.get_docstring(tree), path)


class Uses(unittest.TestCase):
    def test_sets_are_not_kept(self):
        for path, tree in trees():
            above = parents(tree)
            for node in ast.walk(tree):
                if isinstance(node, ast.Set) or called_name(node) in ("set", "frozenset"):
                    parent = above[node]
                    while isinstance(parent, ast.BinOp):
                        self.assertIsInstance(parent.op, (ast.Sub, ast.BitAnd, ast.BitOr, ast.BitXor), path)
                        parent = above[parent]
                    if not isinstance(parent, ast.Compare):
                        self.assertIn(called_name(parent), ("sorted", "len"), (path, node.lineno))
                        self.assertEqual(parent.keywords, [])

    def test_walked_on_the_spot(self):
        for path, tree in trees():
            above = parents(tree)
            for node in ast.walk(tree):
                if called_name(node) in WALKED_AT_ONCE:
                    parent = above[node]
                    if isinstance(parent, (ast.For, ast.comprehension)):
                        self.assertIs(parent.iter, node, (path, node.lineno))
                    elif called_name(parent) in ("min", "max"):
                        self.assertEqual(len(parent.args), 1, (path, node.lineno))
                    else:
                        self.assertIn(called_name(parent), WALKING, (path, node.lineno))
                        self.assertIs(parent.args[0], node, (path, node.lineno))

    def test_written_exponents_and_keywords(self):
        for path, tree in trees():
            for node in ast.walk(tree):
                if isinstance(node, (ast.BinOp, ast.AugAssign)) and isinstance(node.op, ast.Pow):
                    self.assertIn(ast.unparse(node.right), [str(number) for number in range(65)], (path, node.lineno))
                if isinstance(node, ast.Call):
                    for keyword in node.keywords:
                        self.assertIn(keyword.arg, KEYWORDS.get(called_name(node), ()), (path, node.lineno))


    def test_classes_are_called_or_stood_under(self):
        classes = {node.name for path, tree in trees() for node in tree.body if isinstance(node, ast.ClassDef)}
        for path, tree in trees():
            above = parents(tree)
            for node in ast.walk(tree):
                if isinstance(node, ast.Name) and node.id in classes:
                    parent = above[node]
                    where = (path.name, node.lineno)
                    if isinstance(parent, ast.Call) and parent.func is not node:
                        self.assertEqual((called_name(parent), parent.args[1]), ("isinstance", node), where)
                    elif isinstance(parent, ast.Attribute):
                        self.assertEqual(parent.attr, "__init__", where)
                    else:
                        self.assertIsInstance(parent, (ast.Call, ast.ClassDef, ast.ExceptHandler), where)

    def test_lists_and_dicts_of_a_file_s_top_are_only_read(self):
        for path, tree in trees():
            above = parents(tree)
            kept = {}
            for node in tree.body:
                if isinstance(node, ast.Assign) and isinstance(node.value, (ast.List, ast.Dict)):
                    kept[node.targets[0].id] = node
                    inner = [child for child in ast.walk(node.value) if isinstance(child, (ast.List, ast.Dict))]
                    self.assertEqual(inner, [node.value], (path, node.lineno))
            for node in ast.walk(tree):
                if isinstance(node, ast.Name) and node.id in kept and above[node] is not kept[node.id]:
                    parent = above[node]
                    where = (path.name, node.lineno)
                    if isinstance(parent, ast.Attribute):
                        self.assertEqual(parent.attr, "get", where)
                    elif isinstance(parent, ast.Subscript):
                        self.assertIsInstance(parent.ctx, ast.Load, where)
                    else:
                        self.assertIsInstance(parent, (ast.Compare, ast.For, ast.comprehension), where)


class Names(unittest.TestCase):
    def test_python_s_own_names(self):
        for path, tree in trees():
            bound = set(bound_names(tree))
            for node in ast.walk(tree):
                if isinstance(node, ast.Name) and isinstance(node.ctx, ast.Load):
                    self.assertIn(node.id, bound | OWN_NAMES, path)

    def test_plain_and_with_no_other_meaning(self):
        for path, tree in trees():
            for name in bound_names(tree):
                if name not in SPECIAL:
                    self.assertRegex(name, r"\A[A-Za-z][A-Za-z0-9_]*\Z", path)
                    self.assertFalse(hasattr(builtins, name), (path, name))

    def test_methods(self):
        own = {name for path, tree in trees() for name in own_methods(tree)}
        for path, tree in trees():
            for node in ast.walk(tree):
                if isinstance(node, ast.Call) and isinstance(node.func, ast.Attribute):
                    self.assertIn(node.func.attr, own | METHODS, path)

    def test_no_name_is_a_method_and_a_value(self):
        methods = {name for path, tree in trees() for name in own_methods(tree)}
        values = {name for path, tree in trees() for name in own_values(tree)}
        self.assertEqual(methods & values, set())

    def test_methods_are_called_where_they_stand(self):
        methods = {name for path, tree in trees() for name in own_methods(tree)} | METHODS
        for path, tree in trees():
            called = [node.func for node in ast.walk(tree) if isinstance(node, ast.Call)]
            for node in ast.walk(tree):
                if isinstance(node, ast.Attribute) and node.attr in methods:
                    self.assertIn(node, called, (path, node.attr))

    def test_own_names_are_not_python_s(self):
        taken = {name for value in PYTHON_VALUES for name in dir(value)} | {"args", "sort", "encode", "format"}
        for path, tree in trees():
            for name in own_methods(tree):
                self.assertNotIn(name, taken - FREE_METHODS - SPECIAL, path)
            for name in own_values(tree):
                self.assertNotIn(name, taken - FREE_VALUES, path)

    def test_no_local_is_called_like_a_class_or_an_import(self):
        for path, tree in trees():
            taken = [node.name for node in tree.body if isinstance(node, ast.ClassDef)]
            for node in tree.body:
                if isinstance(node, ast.ImportFrom):
                    taken.extend(alias.name for alias in node.names)
            names = bound_names(tree)
            for name in taken:
                self.assertEqual(names.count(name), 1, (path, name))


if __name__ == "__main__":
    unittest.main()
