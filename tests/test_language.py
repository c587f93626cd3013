"""Holds the package's files against those rules of LANGUAGE.md that a look at each file can tell."""

import ast
import builtins
import pathlib
import re
import unittest

PACKAGE = pathlib.Path(__file__).resolve().parent.parent / "askpaper"

OWN_NAMES = set("""len range enumerate zip min max sum abs sorted reversed int str bool list tuple dict set frozenset
    isinstance ord repr any all divmod Exception ValueError TypeError KeyError IndexError LookupError ZeroDivisionError
    ArithmeticError OverflowError RuntimeError NotImplementedError AttributeError StopIteration""".split())
OWN_METHODS = set("""append clear copy count endswith extend find get index insert isalnum isalpha isdigit islower
    isspace isupper items join keys ljust lower lstrip partition pop remove replace reverse rfind rjust rpartition
    rsplit rstrip setdefault split splitlines startswith strip update upper values zfill bit_length""".split())
UNDERSCORED = {"__init__", "__eq__", "__repr__", "__str__", "__len__"}
UNUSED_NAMES = set("""register mro elements open input version_info with_traceback add_note attrgetter breakpoint
    builtins compile copyright credits delattr dir eval exec exit gc getattr globals hasattr help id importlib license
    locals methodcaller os quit setattr super vars sys format format_map""".split())
UNUSED_WORDS = re.compile(r"\b(type|typing|typing_extensions|enum|Enum|IntEnum|StrEnum|Flag|IntFlag|Generic|Protocol"
                          r"|ABC|ABCMeta|namedtuple|NamedTuple|TypedDict|TYPE_CHECKING|abstractmethod)\b"
                          r"|dataclass|overload|contextmanager")
WALKS = ("zip", "enumerate", "reversed", "range", "items", "keys", "values")
WALKERS = ("list", "tuple", "dict", "sorted", "sum", "any", "all", "enumerate", "zip", "min", "max", "join")
NODES = (
    ast.Module, ast.ImportFrom, ast.alias, ast.FunctionDef, ast.arguments, ast.arg, ast.ClassDef, ast.Lambda,
    ast.Assign, ast.AugAssign, ast.If, ast.While, ast.For, ast.Return, ast.Break, ast.Continue, ast.Pass, ast.Raise,
    ast.Try, ast.ExceptHandler, ast.Expr, ast.Constant, ast.List, ast.Tuple, ast.Dict, ast.Set, ast.BinOp, ast.UnaryOp,
    ast.BoolOp, ast.Compare, ast.IfExp, ast.Call, ast.keyword, ast.Attribute, ast.Subscript, ast.Slice, ast.Name,
    ast.ListComp, ast.comprehension, ast.JoinedStr, ast.FormattedValue, ast.expr_context, ast.boolop, ast.unaryop,
    ast.cmpop, ast.Add, ast.Sub, ast.Mult, ast.FloorDiv, ast.Mod, ast.Pow, ast.BitAnd, ast.BitOr, ast.BitXor,
    ast.LShift, ast.RShift,
)


def package_files():
    return sorted(PACKAGE.glob("*.py"))


def methods_of(tree):
    return {part.name for node in ast.walk(tree) if isinstance(node, ast.ClassDef)
            for part in node.body if isinstance(part, ast.FunctionDef)}


def fields_of(tree):
    return {node.attr for node in ast.walk(tree) if isinstance(node, ast.Attribute) and isinstance(node.ctx, ast.Store)}


def classes_of(tree):
    return {part.name for part in tree.body if isinstance(part, ast.ClassDef)}


def imported_by(tree):
    return {alias.name for part in tree.body if isinstance(part, ast.ImportFrom) for alias in part.names}


def drawn_from(tree):
    return {part.module.partition(".")[2] + ".py" for part in tree.body if isinstance(part, ast.ImportFrom)}


def names_where_classes_may_stand(tree):
    """The names that are called, are bases, or stand by isinstance and except."""
    places = []
    for node in ast.walk(tree):
        if isinstance(node, ast.Call):
            places.append(node.func)
            if isinstance(node.func, ast.Name) and node.func.id == "isinstance":
                places.extend(ast.walk(node.args[1]))
            if isinstance(node.func, ast.Attribute) and node.func.attr == "__init__":
                places.append(node.func.value)
        if isinstance(node, ast.ClassDef):
            places.extend(node.bases)
        if isinstance(node, ast.ExceptHandler):
            places.extend(ast.walk(node.type))
    return [place for place in places if isinstance(place, ast.Name)]


def called_name(call):
    return call.func.attr if isinstance(call.func, ast.Attribute) else getattr(call.func, "id", None)


def walked_at_once(tree):
    """The nodes that stand where what is walked may stand."""
    walked = []
    for node in ast.walk(tree):
        if isinstance(node, (ast.For, ast.comprehension)):
            walked.append(node.iter)
        if isinstance(node, ast.Call) and node.args and called_name(node) in WALKERS:
            walked += node.args if called_name(node) == "zip" else node.args[:1]
    return walked


class LanguageTest(unittest.TestCase):
    def setUp(self):
        self.texts = {path.name: path.read_text(encoding="utf-8") for path in package_files()}
        self.trees = {name: ast.parse(text) for name, text in self.texts.items()}
        self.methods = set().union(*[methods_of(tree) for tree in self.trees.values()])
        self.fields = set().union(*[fields_of(tree) for tree in self.trees.values()])

    def each_node(self):
        for name, tree in self.trees.items():
            for node in ast.walk(tree):
                yield f"{name}:{getattr(node, 'lineno', 0)}", node

    def test_files(self):
        self.assertIn("__init__.py", self.texts)
        for path in PACKAGE.iterdir():
            if path.name != "__pycache__":
                self.assertRegex(path.name, r"\A[a-z0-9_]+\.py\Z")

    def test_signs_and_sizes(self):
        for name, text in self.texts.items():
            self.assertRegex(text, r"\A[ -~\n]*\Z", name)
            self.assertLessEqual(len(text.split("\n")), 401, name)
            for place, line in enumerate(text.split("\n"), 1):
                self.assertLessEqual(len(line), 120, f"{name}:{place}")
                self.assertIsNone(UNUSED_WORDS.search(line), f"{name}:{place}")

    def test_functions_are_short_and_plain(self):
        for place, node in self.each_node():
            if isinstance(node, ast.FunctionDef):
                self.assertLessEqual(node.end_lineno - node.lineno + 1, 40, place)
                self.assertEqual(node.decorator_list, [], place)
            if isinstance(node, ast.arguments):
                self.assertFalse(node.vararg or node.kwarg or node.kwonlyargs or node.posonlyargs, place)

    def test_only_the_nodes_of_the_language(self):
        for place, node in self.each_node():
            self.assertIsInstance(node, NODES, place)
            if isinstance(node, ast.Constant):
                self.assertIsInstance(node.value, (int, str, type(None)), place)
            if isinstance(node, ast.Assign):
                self.assertEqual(len(node.targets), 1, place)
            if isinstance(node, (ast.For, ast.While)):
                self.assertEqual(node.orelse, [], place)
            if isinstance(node, ast.Try):
                self.assertEqual(node.finalbody, [], place)
            if isinstance(node, ast.FormattedValue):
                self.assertIsInstance(node.value, ast.Name, place)

    def test_imports(self):
        for place, node in self.each_node():
            if isinstance(node, ast.ImportFrom):
                self.assertEqual(node.level, 0, place)
                self.assertTrue(node.module.startswith("askpaper."), place)
                source = self.trees[node.module.partition(".")[2] + ".py"]
                defined = {part.name for part in source.body if isinstance(part, (ast.FunctionDef, ast.ClassDef))}
                given = {part.targets[0].id for part in source.body if isinstance(part, ast.Assign)}
                for name in node.names:
                    self.assertIn(name.name, defined | given, place)

    def test_no_two_files_draw_from_one_another(self):
        draws = {name: drawn_from(tree) for name, tree in self.trees.items()}
        for name in draws:
            reached = set(draws[name])
            while not set().union(reached, *[draws[other] for other in reached]) <= reached:
                reached = set().union(reached, *[draws[other] for other in reached])
            self.assertNotIn(name, reached)

    def test_classes_are_not_handed_on(self):
        classes = set().union(*[classes_of(tree) for tree in self.trees.values()])
        for file, tree in self.trees.items():
            fit = names_where_classes_may_stand(tree)
            for node in ast.walk(tree):
                if isinstance(node, ast.Name) and node.id in classes:
                    self.assertTrue(any(node is other for other in fit), f"{file}:{node.lineno}")

    def test_no_local_is_called_like_a_class_or_an_import(self):
        for file, tree in self.trees.items():
            given = classes_of(tree) | imported_by(tree)
            for node in ast.walk(tree):
                if isinstance(node, ast.arg):
                    self.assertNotIn(node.arg, given, f"{file}:{node.lineno}")
                if isinstance(node, ast.Name) and isinstance(node.ctx, ast.Store):
                    self.assertNotIn(node.id, given, f"{file}:{node.lineno}")

    def test_texts(self):
        for place, node in self.each_node():
            if isinstance(node, ast.Constant) and isinstance(node.value, str):
                self.assertNotIn("%", node.value, place)
            if isinstance(node, ast.FormattedValue):
                self.assertIsNone(node.format_spec, place)

    def test_names(self):
        for place, node in self.each_node():
            if isinstance(node, ast.Name):
                self.assertNotIn(node.id, UNUSED_NAMES, place)
                self.assertFalse(node.id.startswith("_"), place)
                if node.id in dir(builtins):
                    self.assertIn(node.id, OWN_NAMES, place)
                    self.assertIsInstance(node.ctx, ast.Load, place)
            if isinstance(node, ast.arg):
                self.assertNotIn(node.arg, dir(builtins), place)
            if isinstance(node, (ast.FunctionDef, ast.ClassDef)):
                self.assertTrue(node.name in UNDERSCORED or not node.name.startswith("_"), place)
                self.assertNotIn(node.name, UNUSED_NAMES, place)

    def test_methods_and_fields(self):
        self.assertEqual(self.methods & self.fields, set())
        for place, node in self.each_node():
            if isinstance(node, ast.Attribute):
                self.assertIn(node.attr, self.methods | self.fields | OWN_METHODS | UNDERSCORED, place)
            if isinstance(node, ast.Compare) and any(isinstance(op, (ast.Is, ast.IsNot)) for op in node.ops):
                self.assertIsInstance(node.comparators[0], ast.Constant, place)

    def test_methods_are_called_where_they_stand(self):
        for tree in self.trees.values():
            called = [node.func for node in ast.walk(tree) if isinstance(node, ast.Call)]
            keys = [part.value for node in ast.walk(tree) if isinstance(node, ast.Call) for part in node.keywords
                    if part.arg == "key"]
            for node in ast.walk(tree):
                if isinstance(node, ast.Attribute) and node.attr in (self.methods | OWN_METHODS) - self.fields:
                    self.assertTrue(any(node is other for other in called + keys), ast.unparse(node))

    def test_walks_are_walked_at_once(self):
        for file, tree in self.trees.items():
            walked = walked_at_once(tree)
            for node in ast.walk(tree):
                if isinstance(node, ast.Call) and called_name(node) in WALKS:
                    self.assertTrue(any(node is other for other in walked), f"{file}:{node.lineno}")


if __name__ == "__main__":
    unittest.main()
