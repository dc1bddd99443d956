"""Holds the package to the plainer rules of the part of Python that it keeps to (L1 to L28)."""

import ast
import builtins
import pathlib
import re
import unittest

PACKAGE = pathlib.Path(__file__).resolve().parent.parent / "rowdam"

OWN_NAMES = """
    len range enumerate zip min max sum abs sorted reversed int str bool list tuple dict set frozenset isinstance ord
    repr any all divmod Exception ValueError TypeError KeyError IndexError LookupError ZeroDivisionError
    ArithmeticError OverflowError RuntimeError NotImplementedError AttributeError StopIteration
""".split()
OWN_METHODS = """
    append clear copy count endswith extend find get index insert isalnum isalpha isdigit islower isspace isupper items
    join keys ljust lower lstrip partition pop remove replace reverse rfind rjust rpartition rsplit rstrip setdefault
    split splitlines startswith strip update upper values zfill bit_length
""".split()
DUNDERS = ["__init__", "__eq__", "__repr__", "__str__", "__len__"]
NOWHERE = """
    type typing typing_extensions enum Enum IntEnum StrEnum Flag IntFlag Generic Protocol ABC ABCMeta namedtuple
    NamedTuple TypedDict TYPE_CHECKING abstractmethod
""".split()
NO_NAMES = """
    register mro elements open input version_info with_traceback add_note attrgetter breakpoint builtins compile
    copyright credits delattr dir eval exec exit gc getattr globals hasattr help id importlib license locals
    methodcaller os quit setattr super vars sys format format_map
""".split()
NODES = """
    Module Import ImportFrom alias FunctionDef ClassDef arguments arg Lambda Assign AugAssign If While For Return Break
    Continue Pass Raise Try ExceptHandler Expr Call Constant List Tuple Dict Set BinOp UnaryOp BoolOp Compare IfExp
    Attribute Subscript Slice ListComp comprehension JoinedStr FormattedValue Name keyword Load Store And Or Not Add
    Sub Mult FloorDiv Mod Pow BitAnd BitOr BitXor Invert LShift RShift USub UAdd Eq NotEq Lt LtE Gt GtE In NotIn Is
    IsNot
""".split()


def is_plain(node):
    if isinstance(node, (ast.List, ast.Tuple)):
        return all(is_plain(part) for part in node.elts)
    if isinstance(node, ast.Dict):
        return all(is_plain(part) for part in node.keys + node.values)
    if isinstance(node, ast.UnaryOp):
        return isinstance(node.op, ast.USub) and is_plain(node.operand)
    return isinstance(node, (ast.Constant, ast.Name))


def bound_names(tree):
    for node in ast.walk(tree):
        if isinstance(node, (ast.FunctionDef, ast.ClassDef)):
            yield node.name
        elif isinstance(node, ast.arg):
            yield node.arg
        elif isinstance(node, ast.Name) and isinstance(node.ctx, ast.Store):
            yield node.id
        elif isinstance(node, ast.Attribute) and isinstance(node.ctx, ast.Store):
            yield node.attr


class Language(unittest.TestCase):
    def setUp(self):
        self.texts = {path: path.read_text("utf-8") for path in sorted(PACKAGE.glob("*.py"))}
        self.trees = {path: ast.parse(text) for path, text in self.texts.items()}

    def nodes(self, *kinds):
        for path, tree in self.trees.items():
            for node in ast.walk(tree):
                if not kinds or isinstance(node, kinds):
                    yield f"{path.name}:{getattr(node, 'lineno', 0)}", node

    def test_files(self):
        found = [path for path in PACKAGE.iterdir() if path.name != "__pycache__"]
        self.assertIn(PACKAGE / "__init__.py", found)
        for path in found:
            self.assertRegex(path.name, r"\A(__init__|__main__|[a-z][a-z0-9_]*)\.py\Z")
            self.assertNotIn(path.stem, dir(builtins) + ["test", "tests", "testing", "site", "conftest"])

    def test_signs_words_and_sizes(self):
        for path, text in self.texts.items():
            self.assertRegex(text, r"\A[\n -~]*\Z", path)
            self.assertEqual(set(re.findall(r"\w+", text)) & set(NOWHERE), set(), path)
            self.assertNotRegex(text, "dataclass|overload|contextmanager", path)
            self.assertLessEqual(len(text.splitlines()), 400, path)
            self.assertLessEqual(max(map(len, text.splitlines())), 120, path)
        for place, node in self.nodes(ast.FunctionDef):
            self.assertLessEqual(node.end_lineno - node.lineno + 1, 40, place)

    def test_forms(self):
        for place, node in self.nodes():
            self.assertIn(type(node).__name__, NODES, place)
            self.assertFalse(getattr(node, "decorator_list", []), place)
            if isinstance(node, ast.Constant):
                self.assertIn(type(node.value), (int, str, bool, type(None)), place)
                self.assertNotIn("%", str(node.value), place)
            if isinstance(node, ast.Assign):
                self.assertEqual(len(node.targets), 1, place)
            if isinstance(node, (ast.For, ast.While)):
                self.assertEqual(node.orelse, [], place)
            if isinstance(node, ast.Try):
                self.assertEqual(node.finalbody, [], place)
            if isinstance(node, ast.ListComp):
                self.assertEqual(len(node.generators), 1, place)
                self.assertLessEqual(len(node.generators[0].ifs), 1, place)
            if isinstance(node, ast.arguments):
                self.assertFalse(node.vararg or node.kwarg or node.kwonlyargs or node.posonlyargs, place)
            if isinstance(node, ast.ClassDef):
                self.assertLessEqual(len(node.bases), 1, place)

    def test_tops(self):
        for path, tree in self.trees.items():
            for place, node in enumerate(tree.body):
                if isinstance(node, ast.Assign):
                    self.assertTrue(is_plain(node.value), f"{path.name}:{node.lineno}")
                elif isinstance(node, ast.Expr):
                    self.assertEqual(place, 0, path)
                    self.assertIsInstance(node.value, ast.Constant, path)
                else:
                    self.assertIsInstance(node, (ast.ImportFrom, ast.FunctionDef, ast.ClassDef), path)

    def test_imports(self):
        for place, node in self.nodes(ast.Import, ast.ImportFrom):
            self.assertIsInstance(node, ast.ImportFrom, place)
            self.assertEqual(node.level, 0, place)
            source = PACKAGE.parent / (node.module.replace(".", "/") + ".py")
            self.assertIn(source, self.trees, place)
            defined = list(bound_names(ast.Module(self.trees[source].body, [])))
            for name in node.names:
                self.assertIn(name.name, defined, place)

    def test_names(self):
        for path, tree in self.trees.items():
            for name in bound_names(tree):
                if name not in DUNDERS:
                    self.assertRegex(name, r"\A[A-Za-z][A-Za-z0-9_]*\Z", path)
                    self.assertNotIn(name, NO_NAMES, path)
        for place, node in self.nodes(ast.Name):
            self.assertNotIn(node.id, NO_NAMES, place)
            if hasattr(builtins, node.id):
                self.assertIn(node.id, OWN_NAMES, place)
                self.assertIsInstance(node.ctx, ast.Load, place)

    def test_attributes(self):
        bound = [name for tree in self.trees.values() for name in bound_names(tree)]
        for place, node in self.nodes(ast.Attribute):
            self.assertNotIn(node.attr, NO_NAMES, place)
            self.assertIn(node.attr, OWN_METHODS + ["__init__"] + bound, place)

    def test_is_stands_beside_none_true_and_false(self):
        for place, node in self.nodes(ast.Compare):
            for operator, right in zip(node.ops, node.comparators):
                if isinstance(operator, (ast.Is, ast.IsNot)):
                    self.assertIsInstance(right, ast.Constant, place)
                    self.assertIn(right.value, (None, True, False), place)

    def test_a_name_is_a_method_or_a_value_of_objects_not_both(self):
        methods = [
            part.name for place, node in self.nodes(ast.ClassDef) for part in node.body
            if isinstance(part, ast.FunctionDef)
        ]
        for place, node in self.nodes(ast.Attribute):
            if isinstance(node.ctx, ast.Store):
                self.assertNotIn(node.attr, methods, place)


if __name__ == "__main__":
    unittest.main()
