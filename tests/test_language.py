"""The rules of LANGUAGE.md that a look at the files can judge, for each file of the package.

Where a rule lets more than the package uses so far (lambdas, sets that are stored, stars), none is let here.
"""

import ast
import builtins
import pathlib
import re
import unittest

PACKAGE = pathlib.Path(__file__).resolve().parent.parent / "shownempty"
LIBRARY = {
    "heapq": {"heappush", "heappop", "heapify", "heapreplace", "heappushpop"},
    "math": {"gcd", "lcm", "isqrt", "comb", "perm", "factorial"},
    "collections": {"defaultdict"},
}
STATEMENTS = (
    ast.Assign, ast.AugAssign, ast.AnnAssign, ast.If, ast.While, ast.For, ast.Return, ast.Break, ast.Continue,
    ast.Pass, ast.Raise, ast.Assert, ast.Delete, ast.Nonlocal, ast.Match, ast.With, ast.Try, ast.Expr,
    ast.FunctionDef, ast.ClassDef, ast.ImportFrom,
)
DUNDERS = set("""init eq repr str len enter exit call iter lt le gt ge ne add sub mul floordiv mod pow and or xor
    lshift rshift radd rsub rmul iadd isub imul neg pos invert abs bool contains getitem setitem""".split())
BUILTINS = set("""len range enumerate zip min max sum abs sorted reversed int str bool bytes list tuple dict set
    frozenset isinstance ord repr any all divmod pow map iter next getattr hasattr setattr super property
    staticmethod classmethod Exception ValueError TypeError KeyError IndexError LookupError ZeroDivisionError
    ArithmeticError OverflowError RuntimeError NotImplementedError AttributeError NotImplemented object""".split())
METHODS = set("""append clear copy count endswith extend find get index insert isalnum isalpha isdigit islower isspace
    isupper items join keys ljust lower lstrip partition pop remove replace reverse rfind rjust rpartition rsplit
    rstrip setdefault split splitlines startswith strip update upper values zfill bit_length add discard""".split())
NOT_NAMES = set("""register mro elements open input law version_info with_traceback add_note attrgetter breakpoint
    builtins compile copyright credits delattr dir eval exec exit gc globals help id importlib license locals
    methodcaller os quit type vars sys format format_map""".split())
NOT_WORDS = re.compile(r"\b(type|typing|typing_extensions|[eE]num|IntEnum|StrEnum|Flag|IntFlag|Generic|Protocol|ABC"
                       r"|ABCMeta|namedtuple|NamedTuple|TypedDict|TYPE_CHECKING|abstractmethod|_wall|_WallAttr)\b"
                       r"|dataclass|overload|contextmanager|Meta|metaclass=")
AT_ONCE = set("list tuple dict sorted sum any all enumerate zip min max join".split())


def files():
    return sorted(PACKAGE.glob("*.py"))


def defined_in(tree):
    """The names that a file defines itself at module level."""
    names = {node.name for node in tree.body if isinstance(node, (ast.FunctionDef, ast.ClassDef))}
    for node in tree.body:
        if isinstance(node, ast.Assign):
            names.update(target.id for target in node.targets)
    return names


def bound_in(function):
    """The names of the parameters and local variables of a function."""
    args = function.args
    every = args.posonlyargs + args.args + args.kwonlyargs + [args.vararg, args.kwarg]
    names = [arg.arg for arg in every if arg is not None]
    for node in ast.walk(function):
        if isinstance(node, ast.Name) and not isinstance(node.ctx, ast.Load):
            names.append(node.id)
        if isinstance(node, ast.ExceptHandler) and node.name is not None:
            names.append(node.name)
    return names


def is_literal(node):
    if isinstance(node, (ast.List, ast.Tuple)):
        return all(is_literal(part) for part in node.elts)
    if isinstance(node, ast.Dict):
        return all(is_literal(part) for part in node.keys + node.values)
    if isinstance(node, ast.UnaryOp) and isinstance(node.op, ast.USub):
        return isinstance(node.operand, ast.Constant)
    return isinstance(node, (ast.Constant, ast.Name))


class TestLanguage(unittest.TestCase):

    @classmethod
    def setUpClass(cls):
        cls.trees = {path.stem: ast.parse(path.read_text("utf-8")) for path in files()}

    def nodes(self, *kinds):
        for name, tree in self.trees.items():
            for node in ast.walk(tree):
                if isinstance(node, kinds):
                    yield f"{name}.py:{getattr(node, 'lineno', 0)}", node

    def test_the_folder(self):
        there = [path.name for path in PACKAGE.iterdir() if path.name != "__pycache__"]
        self.assertIn("__init__.py", there)
        for name in there:
            self.assertRegex(name, r"^[a-z0-9_]+\.py$")
        self.assertLessEqual(len(there), 100)

    def test_sizes_and_characters(self):
        for path in files():
            lines = path.read_bytes().decode("ascii").split("\n")
            self.assertLessEqual(len(lines), 399, path)
            for number, line in enumerate(lines, 1):
                self.assertLessEqual(len(line), 120, f"{path}:{number}")
                self.assertRegex(line, r"^[ -~]*$", f"{path}:{number}")
        for at, node in self.nodes(ast.FunctionDef):
            self.assertLessEqual(node.end_lineno - node.lineno + 1, 40, at)

    def test_words_that_do_not_occur(self):
        for path in files():
            self.assertIsNone(NOT_WORDS.search(path.read_text("utf-8")), path)

    def test_module_level(self):
        for name, tree in self.trees.items():
            bound = []
            for k, node in enumerate(tree.body):
                if k == 0 and isinstance(node, ast.Expr) and isinstance(node.value, ast.Constant):
                    continue
                self.assertIsInstance(node, (ast.ImportFrom, ast.FunctionDef, ast.ClassDef, ast.Assign), name)
                if isinstance(node, ast.ImportFrom):
                    self.assertFalse(set(bound) & defined_in(tree), f"{name}: an import is not at the top")
                    bound.extend(alias.name for alias in node.names)
                elif isinstance(node, ast.Assign):
                    self.assertEqual([type(target) for target in node.targets], [ast.Name], name)
                    self.assertTrue(is_literal(node.value), f"{name}:{node.lineno}")
                    bound.append(node.targets[0].id)
                else:
                    bound.append(node.name)
            self.assertEqual(len(bound), len(set(bound)), name)

    def test_imports(self):
        leads = {}
        for name, tree in self.trees.items():
            leads[name] = []
            for node in ast.walk(tree):
                self.assertNotIsInstance(node, ast.Import, name)
                if not isinstance(node, ast.ImportFrom):
                    continue
                self.assertEqual((node.level, [alias.asname for alias in node.names]), (0, [None] * len(node.names)))
                names = {alias.name for alias in node.names}
                if node.module in LIBRARY:
                    self.assertLessEqual(names, LIBRARY[node.module], name)
                    continue
                package, module = node.module.split(".")
                self.assertEqual(package, "shownempty", name)
                self.assertLessEqual(names, defined_in(self.trees[module]), name)
                leads[name].append(module)
        while leads:
            free = [name for name in leads if not set(leads[name]) & set(leads)]
            self.assertTrue(free, f"files that import from each other: {leads}")
            for name in free:
                del leads[name]

    def test_all_that_is_imported_is_used(self):
        for name, tree in self.trees.items():
            used = {node.id for node in ast.walk(tree) if isinstance(node, ast.Name)}
            for node in ast.walk(tree):
                if isinstance(node, ast.ImportFrom):
                    self.assertLessEqual({alias.name for alias in node.names}, used, name)

    def test_statements_and_values(self):
        for at, node in self.nodes(ast.stmt):
            self.assertIsInstance(node, STATEMENTS, at)
        for at, node in self.nodes(ast.Constant):
            self.assertIn(type(node.value), (int, str, bool, type(None)), at)
            if isinstance(node.value, str):
                self.assertNotIn("%", node.value, at)
                self.assertNotIn("__", node.value, at)
        for at, node in self.nodes(ast.BinOp, ast.AugAssign):
            self.assertNotIsInstance(node.op, (ast.Div, ast.MatMult, ast.Pow), at)
        for at, node in self.nodes(ast.GeneratorExp, ast.Set, ast.Await, ast.AsyncFor, ast.Starred, ast.Lambda):
            self.fail(f"{at}: {node}")
        for at, node in self.nodes(ast.Compare):
            for op, right in zip(node.ops, node.comparators):
                if isinstance(op, (ast.Is, ast.IsNot)):
                    self.assertIsInstance(right, ast.Constant, at)

    def test_functions_and_classes(self):
        for at, node in self.nodes(ast.FunctionDef):
            for decorator in node.decorator_list:
                self.assertIn(ast.unparse(decorator).split(".")[-1],
                              ("property", "setter", "staticmethod", "classmethod"), at)
            if node.name.startswith("__"):
                self.assertIn(node.name.strip("_"), DUNDERS, at)
            for default in node.args.defaults + node.args.kw_defaults:
                self.assertTrue(default is None or is_literal(default), at)
        for at, node in self.nodes(ast.ClassDef):
            self.assertEqual((node.decorator_list, node.keywords), ([], []), at)
            methods = [part.name for part in node.body if isinstance(part, ast.FunctionDef)]
            if "__getitem__" in methods:
                self.assertIn("__iter__", methods, at)

    def test_double_underscore_methods_change_nothing(self):
        for at, node in self.nodes(ast.FunctionDef):
            if node.name in ("__eq__", "__len__", "__iter__", "__contains__", "__getitem__", "__bool__"):
                for part in ast.walk(node):
                    self.assertNotIsInstance(part, (ast.Assign, ast.AugAssign, ast.Delete), at)
            if node.name == "__iter__":
                self.assertRegex(ast.unparse(node.body[-1]), r"^return iter\(self\.\w+\)$", at)
            if node.name == "__len__":
                self.assertRegex(ast.unparse(node.body[-1]), r"^return len\(", at)

    def test_properties_and_methods_are_not_assigned(self):
        settable, properties, methods = set(), set(), set()
        for _, node in self.nodes(ast.FunctionDef):
            decorators = [ast.unparse(decorator) for decorator in node.decorator_list]
            if "property" in decorators:
                properties.add(node.name)
            if node.name + ".setter" in decorators:
                settable.add(node.name)
            if {"staticmethod", "classmethod"} & set(decorators):
                methods.add(node.name)
        for at, node in self.nodes(ast.Attribute):
            if isinstance(node.ctx, ast.Store):
                self.assertNotIn(node.attr, (properties - settable) | methods, at)
        for at, node in self.nodes(ast.ClassDef):
            own = {part.name for part in node.body if isinstance(part, ast.FunctionDef)} - settable
            for part in ast.walk(node):
                if isinstance(part, ast.Attribute) and isinstance(part.ctx, ast.Store):
                    self.assertNotIn(part.attr, own, at)

    def test_the_names_of_generators(self):
        names = [node.name for _, node in self.nodes(ast.FunctionDef)]
        for at, node in self.nodes(ast.FunctionDef):
            if any(isinstance(part, (ast.Yield, ast.YieldFrom)) for part in ast.walk(node)):
                self.assertEqual(names.count(node.name), 1, at)

    def test_names(self):
        every = set(dir(builtins))
        for at, node in self.nodes(ast.Name):
            if isinstance(node.ctx, ast.Load):
                self.assertTrue(node.id not in every or node.id in BUILTINS, f"{at}: {node.id}")
        for name, tree in self.trees.items():
            taken = {alias.name for node in ast.walk(tree) if isinstance(node, ast.ImportFrom) for alias in node.names}
            taken.update(node.name for node in tree.body if isinstance(node, ast.ClassDef))
            for node in ast.walk(tree):
                if isinstance(node, ast.FunctionDef):
                    for bound in bound_in(node):
                        self.assertNotIn(bound, every | taken | NOT_NAMES, f"{name}:{node.lineno}")
                        self.assertRegex(bound, r"^(_|_?[A-Za-z][A-Za-z0-9_]*)$")
            for bound in defined_in(tree):
                self.assertNotIn(bound, every | NOT_NAMES, name)
        for at, node in self.nodes(ast.Attribute):
            self.assertNotIn(node.attr, NOT_NAMES, at)
            self.assertFalse(node.attr.startswith("__"), at)

    def test_methods_that_are_called(self):
        own = {node.name for _, node in self.nodes(ast.FunctionDef)}
        for at, node in self.nodes(ast.Call):
            if isinstance(node.func, ast.Attribute):
                self.assertIn(node.func.attr, METHODS | own, at)

    def test_errors(self):
        for at, node in self.nodes(ast.Raise):
            if node.exc is not None:
                self.assertIsInstance(node.exc, ast.Call, at)
                self.assertIsInstance(node.exc.func, ast.Name, at)
        own = defined_in(self.trees["errors"])
        for at, node in self.nodes(ast.ExceptHandler):
            caught = node.type.elts if isinstance(node.type, ast.Tuple) else [node.type]
            self.assertLessEqual({part.id for part in caught}, own | {"KeyError", "ZeroDivisionError"}, at)

    def test_what_is_iterated_at_once(self):
        generators = {node.name for _, node in self.nodes(ast.FunctionDef)
                      if any(isinstance(part, (ast.Yield, ast.YieldFrom)) for part in ast.walk(node))}
        lazy = generators | {"zip", "enumerate", "reversed", "map"}
        fine = set()
        for _, node in self.nodes(ast.For, ast.comprehension):
            fine.add(node.iter)
        for _, node in self.nodes(ast.YieldFrom):
            fine.add(node.value)
        for _, node in self.nodes(ast.Call):
            called = node.func.attr if isinstance(node.func, ast.Attribute) else getattr(node.func, "id", "")
            if called in AT_ONCE:
                fine.update(node.args[:1])
        for at, node in self.nodes(ast.Call):
            if isinstance(node.func, ast.Name) and node.func.id in lazy:
                self.assertIn(node, fine, at)
