"""Holds the package to the plainer rules of the part of Python that it keeps to (L1 to L28)."""

import ast
import builtins
import pathlib
import re
import unittest

PACKAGE = pathlib.Path(__file__).resolve().parent.parent / "rowdam"

OWN_NAMES = """
    len range enumerate zip min max sum abs sorted reversed int str bool list tuple dict set frozenset isinstance ord
    repr any all divmod Exception ValueError TypeError KeyError IndexError LookupError ZeroDivisionError
    ArithmeticError OverflowError RuntimeError NotImplementedError AttributeError StopIteration
""".split()
OWN_METHODS = """
    append clear copy count endswith extend find get index insert isalnum isalpha isdigit islower isspace isupper items
    join keys ljust lower lstrip partition pop remove replace reverse rfind rjust rpartition rsplit rstrip setdefault
    split splitlines startswith strip update upper values zfill bit_length
""".split()
DUNDERS = ["__init__", "__eq__", "__repr__", "__str__", "__len__"]
NOWHERE = """
    type typing typing_extensions enum Enum IntEnum StrEnum Flag IntFlag Generic Protocol ABC ABCMeta namedtuple
    NamedTuple TypedDict TYPE_CHECKING abstractmethod
""".split()
NO_NAMES = """
    register mro elements open input version_info with_traceback add_note attrgetter breakpoint builtins compile
    copyright credits delattr dir eval exec exit gc getattr globals hasattr help id importlib license locals
    methodcaller os quit setattr super vars sys format format_map
""".split()
NODES = """
    Module Import ImportFrom alias FunctionDef ClassDef arguments arg Lambda Assign AugAssign If While For Return Break
    Continue Pass Raise Try ExceptHandler Expr Call Constant List Tuple Dict Set BinOp UnaryOp BoolOp Compare IfExp
    Attribute Subscript Slice ListComp comprehension JoinedStr FormattedValue Name keyword Load Store And Or Not Add
    Sub Mult FloorDiv Mod Pow BitAnd BitOr BitXor Invert LShift RShift USub UAdd Eq NotEq Lt LtE Gt GtE In NotIn Is
    IsNot
""".split()
WALKED = ["zip", "enumerate", "reversed", "range"]
WALKED_METHODS = ["items", "keys", "values"]
WALKERS = ["list", "tuple", "dict", "sorted", "sum", "any", "all", "enumerate", "zip", "min", "max"]
KEYWORDS = {
    "sorted": ["key", "reverse"], "min": ["key", "default"], "max": ["key", "default"], "sum": ["start"],
    "enumerate": ["start"], "zip": ["strict"],
}
OWN_KINDS = [str, int, list, dict, set, bytes, tuple]
VALUES_THOUGH_OWN = "count index title find get join lower upper split strip copy add".split()
METHODS_THOUGH_OWN = OWN_METHODS + ["add", "discard"]


def is_plain(node):
    if isinstance(node, (ast.List, ast.Tuple)):
        return all(is_plain(part) for part in node.elts)
    if isinstance(node, ast.Dict):
        return all(is_plain(part) for part in node.keys + node.values)
    if isinstance(node, ast.UnaryOp):
        return isinstance(node.op, ast.USub) and is_plain(node.operand)
    return isinstance(node, (ast.Constant, ast.Name))


def bound_names(tree):
    for node in ast.walk(tree):
        if isinstance(node, (ast.FunctionDef, ast.ClassDef)):
            yield node.name
        elif isinstance(node, ast.arg):
            yield node.arg
        elif isinstance(node, ast.Name) and isinstance(node.ctx, ast.Store):
            yield node.id
        elif isinstance(node, ast.Attribute) and isinstance(node.ctx, ast.Store):
            yield node.attr


def locals_of(node):
    """The names that a def binds: its parameters and whatever is stored in it."""
    for part in ast.walk(node):
        if isinstance(part, ast.arg):
            yield part.arg
        elif isinstance(part, ast.Name) and isinstance(part.ctx, ast.Store):
            yield part.id
        elif isinstance(part, ast.ExceptHandler) and part.name:
            yield part.name


class Language(unittest.TestCase):
    def setUp(self):
        self.texts = {path: path.read_text("utf-8") for path in sorted(PACKAGE.glob("*.py"))}
        self.trees = {path: ast.parse(text) for path, text in self.texts.items()}

    def nodes(self, *kinds):
        for path, tree in self.trees.items():
            for node in ast.walk(tree):
                if not kinds or isinstance(node, kinds):
                    yield f"{path.name}:{getattr(node, 'lineno', 0)}", node

    def test_files(self):
        found = [path for path in PACKAGE.iterdir() if path.name != "__pycache__"]
        self.assertIn(PACKAGE / "__init__.py", found)
        for path in found:
            self.assertRegex(path.name, r"\A(__init__|__main__|[a-z][a-z0-9_]*)\.py\Z")
            self.assertNotIn(path.stem, dir(builtins) + ["test", "tests", "testing", "site", "conftest"])

    def test_signs_words_and_sizes(self):
        for path, text in self.texts.items():
            self.assertRegex(text, r"\A[\n -~]*\Z", path)
            self.assertEqual(set(re.findall(r"\w+", text)) & set(NOWHERE), set(), path)
            self.assertNotRegex(text, "dataclass|overload|contextmanager", path)
            self.assertLessEqual(len(text.splitlines()), 400, path)
            self.assertLessEqual(max(map(len, text.splitlines())), 120, path)
        for place, node in self.nodes(ast.FunctionDef):
            self.assertLessEqual(node.end_lineno - node.lineno + 1, 40, place)

    def test_forms(self):
        for place, node in self.nodes():
            self.assertIn(type(node).__name__, NODES, place)
            self.assertFalse(getattr(node, "decorator_list", []), place)
            if isinstance(node, ast.Constant):
                self.assertIn(type(node.value), (int, str, bool, type(None)), place)
                self.assertNotIn("%", str(node.value), place)
            if isinstance(node, ast.Assign):
                self.assertEqual(len(node.targets), 1, place)
            if isinstance(node, (ast.For, ast.While)):
                self.assertEqual(node.orelse, [], place)
            if isinstance(node, ast.Try):
                self.assertEqual(node.finalbody, [], place)
            if isinstance(node, ast.ListComp):
                self.assertEqual(len(node.generators), 1, place)
                self.assertLessEqual(len(node.generators[0].ifs), 1, place)
            if isinstance(node, ast.arguments):
                self.assertFalse(node.vararg or node.kwarg or node.kwonlyargs or node.posonlyargs, place)
            if isinstance(node, ast.ClassDef):
                self.assertLessEqual(len(node.bases), 1, place)

    def test_tops(self):
        for path, tree in self.trees.items():
            for place, node in enumerate(tree.body):
                if isinstance(node, ast.Assign):
                    self.assertTrue(is_plain(node.value), f"{path.name}:{node.lineno}")
                elif isinstance(node, ast.Expr):
                    self.assertEqual(place, 0, path)
                    self.assertIsInstance(node.value, ast.Constant, path)
                else:
                    self.assertIsInstance(node, (ast.ImportFrom, ast.FunctionDef, ast.ClassDef), path)

    def test_statements_by_themselves_are_calls(self):
        tops = [tree.body[0] for tree in self.trees.values()]
        for place, node in self.nodes(ast.Expr):
            self.assertTrue(node in tops or isinstance(node.value, ast.Call), place)

    def test_imports(self):
        for place, node in self.nodes(ast.Import, ast.ImportFrom):
            self.assertIsInstance(node, ast.ImportFrom, place)
            self.assertEqual(node.level, 0, place)
            source = PACKAGE.parent / (node.module.replace(".", "/") + ".py")
            self.assertIn(source, self.trees, place)
            defined = list(bound_names(ast.Module(self.trees[source].body, [])))
            for name in node.names:
                self.assertIn(name.name, defined, place)

    def test_names(self):
        for path, tree in self.trees.items():
            for name in bound_names(tree):
                if name not in DUNDERS:
                    self.assertRegex(name, r"\A[A-Za-z][A-Za-z0-9_]*\Z", path)
                    self.assertNotIn(name, NO_NAMES, path)
        for place, node in self.nodes(ast.Name):
            self.assertNotIn(node.id, NO_NAMES, place)
            if hasattr(builtins, node.id):
                self.assertIn(node.id, OWN_NAMES, place)
                self.assertIsInstance(node.ctx, ast.Load, place)

    def test_attributes(self):
        bound = [name for tree in self.trees.values() for name in bound_names(tree)]
        for place, node in self.nodes(ast.Attribute):
            self.assertNotIn(node.attr, NO_NAMES, place)
            self.assertIn(node.attr, OWN_METHODS + ["__init__"] + bound, place)

    def test_is_stands_beside_none_true_and_false(self):
        for place, node in self.nodes(ast.Compare):
            for operator, right in zip(node.ops, node.comparators):
                if isinstance(operator, (ast.Is, ast.IsNot)):
                    self.assertIsInstance(right, ast.Constant, place)
                    self.assertIn(right.value, (None, True, False), place)

    def test_a_name_is_a_method_or_a_value_of_objects_not_both(self):
        methods = [
            part.name for place, node in self.nodes(ast.ClassDef) for part in node.body
            if isinstance(part, ast.FunctionDef)
        ]
        for place, node in self.nodes(ast.Attribute):
            if isinstance(node.ctx, ast.Store):
                self.assertNotIn(node.attr, methods, place)

    def test_no_local_is_called_like_a_class_an_import_or_a_name_of_pythons_own(self):
        for path, tree in self.trees.items():
            taken = [name.name for node in ast.walk(tree) if isinstance(node, ast.ImportFrom) for name in node.names]
            taken += [node.name for node in tree.body if isinstance(node, (ast.FunctionDef, ast.ClassDef))]
            for node in ast.walk(tree):
                if isinstance(node, ast.FunctionDef):
                    for name in locals_of(node):
                        self.assertNotIn(name, taken + dir(builtins), f"{path.name}:{node.lineno}")

    def test_each_name_is_bound_once_at_the_top(self):
        for path, tree in self.trees.items():
            bound = list(bound_names(ast.Module([n for n in tree.body if isinstance(n, ast.Assign)], [])))
            bound += [node.name for node in tree.body if isinstance(node, (ast.FunctionDef, ast.ClassDef))]
            bound += [name.name for node in tree.body if isinstance(node, ast.ImportFrom) for name in node.names]
            self.assertEqual(len(bound), len(set(bound)), path)
            for node in tree.body:
                if isinstance(node, ast.ClassDef):
                    methods = [part.name for part in node.body if isinstance(part, ast.FunctionDef)]
                    self.assertEqual(len(methods), len(set(methods)), path)

    def test_no_two_files_draw_from_one_another(self):
        drawn = {
            path.stem: {node.module.split(".")[1] for node in tree.body if isinstance(node, ast.ImportFrom)}
            for path, tree in self.trees.items()
        }
        while drawn:
            free = [name for name, froms in drawn.items() if not froms & set(drawn)]
            self.assertTrue(free, drawn)
            for name in free:
                del drawn[name]

    def test_every_import_is_used(self):
        for path, tree in self.trees.items():
            used = {node.id for node in ast.walk(tree) if isinstance(node, ast.Name)}
            for node in tree.body:
                if isinstance(node, ast.ImportFrom):
                    self.assertEqual({name.name for name in node.names} - used, set(), path)

    def test_f_strings_hold_plain_names(self):
        for place, node in self.nodes(ast.FormattedValue):
            self.assertIsInstance(node.value, ast.Name, place)
            self.assertIsNone(node.format_spec, place)

    def test_errors_are_taken_by_name_and_made_on_the_spot(self):
        for place, node in self.nodes(ast.ExceptHandler):
            self.assertIsInstance(node.type, ast.Name, place)
            self.assertNotIn(node.type.id, dir(builtins), place)
        for place, node in self.nodes(ast.Raise):
            self.assertIsInstance(node.exc, ast.Call, place)

    def test_what_is_walked_is_walked_on_the_spot(self):
        allowed = []
        for place, node in self.nodes(ast.For, ast.comprehension):
            allowed.append(node.iter)
        for place, node in self.nodes(ast.Call):
            if isinstance(node.func, ast.Name) and node.func.id in WALKERS:
                allowed.extend(node.args[:1])
            if isinstance(node.func, ast.Attribute) and node.func.attr == "join":
                self.assertIsInstance(node.func.value, ast.Constant, place)
                allowed.extend(node.args)
        for place, node in self.nodes(ast.Call):
            by_name = isinstance(node.func, ast.Name) and node.func.id in WALKED
            by_method = isinstance(node.func, ast.Attribute) and node.func.attr in WALKED_METHODS
            if by_name or by_method:
                self.assertIn(node, allowed, place)

    def test_keywords_of_pythons_own(self):
        for place, node in self.nodes(ast.Call):
            name = node.func.id if isinstance(node.func, ast.Name) else node.func.attr
            if name in OWN_NAMES + OWN_METHODS:
                for word in node.keywords:
                    self.assertIn(word.arg, KEYWORDS.get(name, []), place)

    def test_methods_are_called_where_they_stand(self):
        methods = [
            part.name for place, node in self.nodes(ast.ClassDef) for part in node.body
            if isinstance(part, ast.FunctionDef)
        ]
        called = [node.func for place, node in self.nodes(ast.Call)]
        for place, node in self.nodes(ast.Attribute):
            if node.attr in methods + OWN_METHODS:
                self.assertIn(node, called, place)

    def test_names_of_methods_and_values_are_free(self):
        own = [name for kind in OWN_KINDS for name in dir(kind)]
        for place, node in self.nodes(ast.ClassDef):
            for part in node.body:
                if isinstance(part, ast.FunctionDef) and part.name not in DUNDERS:
                    self.assertTrue(part.name not in own or part.name in METHODS_THOUGH_OWN, place)
        for place, node in self.nodes(ast.Attribute):
            if isinstance(node.ctx, ast.Store):
                self.assertTrue(node.attr not in own or node.attr in VALUES_THOUGH_OWN, place)

    def test_classes_are_not_handed_on(self):
        classes = [node.name for place, node in self.nodes(ast.ClassDef)]
        allowed = []
        for place, node in self.nodes(ast.Call, ast.ClassDef, ast.ExceptHandler, ast.Attribute):
            if isinstance(node, ast.Call):
                allowed.append(node.func)
                if isinstance(node.func, ast.Name) and node.func.id == "isinstance":
                    allowed.append(node.args[1])
            elif isinstance(node, ast.ClassDef):
                allowed.extend(node.bases)
            elif isinstance(node, ast.ExceptHandler):
                allowed.append(node.type)
            elif node.attr == "__init__":
                allowed.append(node.value)
        for place, node in self.nodes(ast.Name):
            if node.id in classes:
                self.assertIn(node, allowed, place)

    def test_lists_and_dicts_of_the_top_are_read_alone(self):
        for path, tree in self.trees.items():
            kept = [
                node.targets[0].id for node in tree.body
                if isinstance(node, ast.Assign) and isinstance(node.value, (ast.List, ast.Dict))
            ]
            for node in ast.walk(tree):
                if isinstance(node, ast.Return) and isinstance(node.value, ast.Name):
                    self.assertNotIn(node.value.id, kept, path)
                if isinstance(node, (ast.Subscript, ast.Attribute)) and isinstance(node.ctx, ast.Store):
                    self.assertFalse(isinstance(node.value, ast.Name) and node.value.id in kept, path)
                if isinstance(node, ast.Assign) and isinstance(node.value, (ast.List, ast.Dict)):
                    if node in tree.body:
                        parts = node.value.values if isinstance(node.value, ast.Dict) else node.value.elts
                        self.assertFalse(any(isinstance(part, (ast.List, ast.Dict)) for part in parts), path)


if __name__ == "__main__":
    unittest.main()
