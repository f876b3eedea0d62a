"""The package's files keep to the part of Python that the project allows, as far as that can be seen in them."""

import ast
import pathlib
import re
import unittest

PACKAGE = pathlib.Path(__file__).resolve().parent.parent / "widthlayout"

NODES = (
    "Module FunctionDef ClassDef arguments arg keyword alias ImportFrom Assign AugAssign If While For Return Break "
    "Continue Pass Raise Try ExceptHandler Expr Constant List Tuple Dict BinOp UnaryOp BoolOp Compare IfExp Call "
    "Attribute Subscript Slice ListComp comprehension Name Load Store Lambda JoinedStr FormattedValue "
    "Add Sub Mult FloorDiv Mod Pow BitAnd BitOr BitXor LShift RShift Invert USub UAdd Not And Or "
    "Eq NotEq Lt LtE Gt GtE Is IsNot In NotIn").split()

BUILTINS = (
    "len range enumerate zip min max sum abs sorted reversed int str bool list tuple dict set frozenset isinstance "
    "ord repr any all divmod Exception ValueError TypeError KeyError IndexError LookupError ZeroDivisionError "
    "ArithmeticError OverflowError RuntimeError NotImplementedError AttributeError StopIteration").split()

METHODS = (
    "append clear copy count endswith extend find get index insert isalnum isalpha isdigit islower isspace isupper "
    "items join keys ljust lower lstrip partition pop remove replace reverse rfind rjust rpartition rsplit rstrip "
    "setdefault split splitlines startswith strip update upper values zfill bit_length").split()

DUNDERS = "__init__ __eq__ __repr__ __str__ __len__".split()

WORDS = re.compile(
    r"\b(type|typing|typing_extensions|enum|Enum|IntEnum|StrEnum|Flag|IntFlag|Generic|Protocol|ABC|ABCMeta|namedtuple"
    r"|NamedTuple|TypedDict|TYPE_CHECKING|abstractmethod)\b|dataclass|overload|contextmanager")

UNUSED = (
    "register mro elements open input version_info with_traceback add_note format format_map attrgetter breakpoint "
    "builtins compile copyright credits delattr dir eval exec exit gc getattr globals hasattr help id importlib "
    "license locals methodcaller os quit setattr super vars sys").split()

KEYWORDS = {"sorted": ("key", "reverse"), "min": ("key", "default"), "max": ("key", "default"), "sum": ("start",),
            "enumerate": ("start",), "zip": ("strict",)}

WALKED = ("range", "enumerate", "zip", "reversed", "items", "keys", "values")
WALKING = ("list", "tuple", "dict", "sorted", "sum", "any", "all", "enumerate", "zip", "min", "max", "join")

PYTHONS_OWN = __builtins__ if isinstance(__builtins__, dict) else vars(__builtins__)


def called_name(call):
    """The name that is called, plain or behind a dot."""
    return getattr(call.func, "id", None) or getattr(call.func, "attr", None)


def bound_names(tree):
    """The names that parameters, assignments, loops and handlers give, with the lines."""
    for node in ast.walk(tree):
        if isinstance(node, ast.arg):
            yield node.arg, node.lineno
        elif isinstance(node, ast.Name) and isinstance(node.ctx, ast.Store):
            yield node.id, node.lineno
        elif isinstance(node, ast.ExceptHandler) and node.name:
            yield node.name, node.lineno


class LanguageTest(unittest.TestCase):
    @classmethod
    def setUpClass(cls):
        cls.sources = {path.name: path.read_text("utf-8") for path in sorted(PACKAGE.glob("*.py"))}
        cls.trees = {name: ast.parse(source) for name, source in cls.sources.items()}

    def nodes(self, *kinds):
        for name, tree in self.trees.items():
            for node in ast.walk(tree):
                if isinstance(node, kinds):
                    yield node, f"{name}:{getattr(node, 'lineno', 0)}"

    def test_files(self):
        found = [path.name for path in PACKAGE.iterdir() if path.name != "__pycache__"]
        self.assertIn("__init__.py", found)
        for name in found:
            self.assertRegex(name, r"^(__init__|[a-z][a-z0-9_]*)\.py$")
            self.assertNotIn(name[:-3], PYTHONS_OWN)

    def test_size_and_signs(self):
        for name, source in self.sources.items():
            self.assertLessEqual(source.count("\n"), 400, name)
            self.assertRegex(source, r"\A[ -~\n]*\Z", name)
            self.assertIsNone(WORDS.search(source), name)
            for number, line in enumerate(source.split("\n"), start=1):
                self.assertLessEqual(len(line), 120, f"{name}:{number}")
        for node, where in self.nodes(ast.FunctionDef):
            self.assertLessEqual(node.end_lineno - node.lineno + 1, 40, where)

    def test_statements_and_expressions(self):
        for node, where in self.nodes(ast.AST):
            self.assertIn(node.__class__.__name__, NODES, where)
        for node, where in self.nodes(ast.Constant):
            self.assertIn(node.value.__class__, (int, str, bool, None.__class__), where)
        docstrings = [tree.body[0] for tree in self.trees.values()]
        for node, where in self.nodes(ast.Expr):
            self.assertTrue(node in docstrings or isinstance(node.value, ast.Call), where)
        for node, where in self.nodes(ast.While, ast.For):
            self.assertEqual(node.orelse, [], where)
        for node, where in self.nodes(ast.Assign):
            self.assertEqual(len(node.targets), 1, where)
        for node, where in self.nodes(ast.ListComp):
            self.assertEqual(len(node.generators), 1, where)
            self.assertLessEqual(len(node.generators[0].ifs), 1, where)
        for node, where in self.nodes(ast.Compare):
            if any(isinstance(operator, (ast.Is, ast.IsNot)) for operator in node.ops):
                self.assertIn(getattr(node.comparators[-1], "value", 0), (None, True, False), where)

    def test_functions_and_classes(self):
        for node, where in self.nodes(ast.FunctionDef):
            self.assertEqual(node.decorator_list, [], where)
            self.assertEqual((node.args.vararg, node.args.kwarg, node.args.kwonlyargs), (None, None, []), where)
            if node.name.startswith("_"):
                self.assertIn(node.name, DUNDERS, where)
        for node, where in self.nodes(ast.ClassDef):
            self.assertEqual((node.decorator_list, node.keywords), ([], []), where)
            self.assertLessEqual(len(node.bases), 1, where)
            for inner in node.body:
                self.assertIsInstance(inner, ast.FunctionDef, where)

    def test_top_of_files(self):
        for name, tree in self.trees.items():
            names = []
            for node in tree.body:
                self.assertIsInstance(node, (ast.Expr, ast.ImportFrom, ast.FunctionDef, ast.ClassDef, ast.Assign), name)
                if isinstance(node, ast.ImportFrom):
                    self.assertRegex(node.module, r"^widthlayout\.", name)
                    self.assertEqual(node.level, 0, name)
                    names += [alias.name for alias in node.names]
                elif isinstance(node, ast.Assign):
                    self.assertIsInstance(ast.literal_eval(node.value), (int, str, tuple), name)
                    names.append(node.targets[0].id)
                elif isinstance(node, (ast.FunctionDef, ast.ClassDef)):
                    names.append(node.name)
            self.assertEqual(len(names), len(set(names)), name)

    def test_imports_go_to_the_defining_file_and_never_round(self):
        draws = {}
        for name, tree in self.trees.items():
            draws[name] = []
            for node in ast.walk(tree):
                if isinstance(node, ast.ImportFrom):
                    source = node.module.split(".")[1] + ".py"
                    draws[name].append(source)
                    defined = [getattr(top, "name", None) or getattr(top.targets[0], "id", None)
                               for top in self.trees[source].body
                               if isinstance(top, (ast.FunctionDef, ast.ClassDef, ast.Assign))]
                    for alias in node.names:
                        self.assertIn(alias.name, defined, name)
                        used = [one for one in ast.walk(tree) if isinstance(one, ast.Name) and one.id == alias.name]
                        self.assertTrue(used, f"{name} does not use {alias.name}")
        while draws:
            free = [name for name in draws if not any(source in draws for source in draws[name])]
            self.assertTrue(free, draws)
            for name in free:
                del draws[name]

    def test_names(self):
        for name, tree in self.trees.items():
            own = {node.name for node in ast.walk(tree) if isinstance(node, (ast.FunctionDef, ast.ClassDef))}
            imported = {alias.name for node in ast.walk(tree) if isinstance(node, ast.ImportFrom)
                        for alias in node.names}
            classes = {node.name for node in ast.walk(tree) if isinstance(node, ast.ClassDef)}
            bound = {bound_name for bound_name, line in bound_names(tree)}
            for bound_name, line in bound_names(tree):
                self.assertRegex(bound_name, r"^[A-Za-z][A-Za-z0-9_]*$", f"{name}:{line}")
                self.assertNotIn(bound_name, PYTHONS_OWN, f"{name}:{line}")
                self.assertNotIn(bound_name, UNUSED, f"{name}:{line}")
                self.assertNotIn(bound_name, imported | classes, f"{name}:{line}")
            for node in ast.walk(tree):
                if isinstance(node, ast.Name) and node.id not in own | imported | bound:
                    self.assertIn(node.id, BUILTINS, f"{name}:{node.lineno}")

    def test_methods_and_values(self):
        methods = {inner.name for node, where in self.nodes(ast.ClassDef) for inner in node.body
                   if isinstance(inner, ast.FunctionDef)}
        values = {node.attr for node, where in self.nodes(ast.Attribute) if isinstance(node.ctx, ast.Store)}
        self.assertEqual(methods & values, set())
        pythons = {name for kind in (str, int, list, dict, set, bytes) for name in dir(kind)}
        self.assertEqual((methods - set(DUNDERS)) & pythons, set())
        self.assertEqual(values & pythons, set())
        for node, where in self.nodes(ast.Attribute):
            self.assertIn(node.attr, methods | values | set(METHODS), where)
            self.assertNotIn(node.attr, UNUSED, where)

    def test_values_are_given_through_a_name(self):
        for node, where in self.nodes(ast.Attribute):
            if isinstance(node.ctx, ast.Store):
                self.assertIsInstance(node.value, ast.Name, where)

    def test_keywords(self):
        for node, where in self.nodes(ast.Call):
            for keyword in node.keywords:
                self.assertIn(keyword.arg, KEYWORDS.get(called_name(node), ()), where)

    def test_walked_at_once(self):
        walked = []
        for node, where in self.nodes(ast.For, ast.comprehension):
            walked.append(node.iter)
        for node, where in self.nodes(ast.Call):
            if called_name(node) in WALKING:
                walked += node.args
        for node, where in self.nodes(ast.Call):
            if called_name(node) in WALKED:
                self.assertIn(node, walked, where)

    def test_what_is_walked_is_not_changed(self):
        changes = ("append", "clear", "extend", "insert", "pop", "remove", "reverse", "setdefault", "update")
        for loop, where in self.nodes(ast.For):
            names = {ast.unparse(node) for node in ast.walk(loop.iter) if isinstance(node, (ast.Name, ast.Attribute))}
            for node in [inner for statement in loop.body for inner in ast.walk(statement)]:
                if isinstance(node, ast.Call) and isinstance(node.func, ast.Attribute) and node.func.attr in changes:
                    self.assertNotIn(ast.unparse(node.func.value), names, where)
                if isinstance(node, ast.Subscript) and isinstance(node.ctx, ast.Store):
                    self.assertNotIn(ast.unparse(node.value), names, where)

    def test_texts_and_powers(self):
        for node, where in self.nodes(ast.Constant):
            if isinstance(node.value, str):
                self.assertNotIn("%", node.value, where)
        for node, where in self.nodes(ast.BinOp):
            if isinstance(node.op, ast.Pow):
                self.assertIn(getattr(node.right, "value", -1), range(65), where)
        for node, where in self.nodes(ast.FormattedValue):
            self.assertIsInstance(node.value, ast.Name, where)
            self.assertIsNone(node.format_spec, where)

    def test_beginnings_give_back_nothing(self):
        for node, where in self.nodes(ast.FunctionDef):
            if node.name == "__init__":
                self.assertFalse([inner for inner in ast.walk(node) if isinstance(inner, ast.Return)], where)


if __name__ == "__main__":
    unittest.main()
