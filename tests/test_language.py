"""The form of the package's own files: the rules of ../shared/LANGUAGE.md that a plain look at the code can hold."""

import ast
import builtins
import re
import unittest
from pathlib import Path

ROOT = Path(__file__).resolve().parent.parent
PACKAGE = ROOT / "belowpoints"

STATEMENTS = (
    ast.Assign, ast.AugAssign, ast.AnnAssign, ast.If, ast.While, ast.For, ast.Return, ast.Break, ast.Continue, ast.Pass,
    ast.Raise, ast.Try, ast.Expr, ast.FunctionDef, ast.ClassDef, ast.ImportFrom,
)
EXPRESSIONS = (
    ast.Constant, ast.List, ast.Tuple, ast.Dict, ast.Set, ast.BinOp, ast.UnaryOp, ast.BoolOp, ast.Compare, ast.IfExp,
    ast.Call, ast.Attribute, ast.Subscript, ast.Slice, ast.ListComp, ast.JoinedStr, ast.FormattedValue, ast.Name,
    ast.Lambda,
)
OWN_OF_PYTHON = set(
    "len range enumerate zip min max sum abs sorted reversed int str bool list tuple dict set frozenset isinstance ord "
    "repr any all divmod Exception ValueError TypeError KeyError IndexError LookupError ZeroDivisionError "
    "ArithmeticError OverflowError RuntimeError NotImplementedError AttributeError StopIteration".split()
)
METHODS = set(
    "append clear copy count endswith extend find get index insert isalnum isalpha isdigit islower isspace isupper "
    "items join keys ljust lower lstrip partition pop remove replace reverse rfind rjust rpartition rsplit rstrip "
    "setdefault split splitlines startswith strip update upper values zfill bit_length".split()
)
TWO_UNDERSCORES = set("__init__ __eq__ __repr__ __str__ __len__".split())
NO_WORDS = re.compile(
    r"\b(type|typing|typing_extensions|enum|Enum|IntEnum|StrEnum|Flag|IntFlag|Generic|Protocol|ABC|ABCMeta|namedtuple|"
    r"NamedTuple|TypedDict|TYPE_CHECKING|abstractmethod)\b|dataclass|overload|contextmanager"
)
NO_NAMES = set(
    "register mro elements open input version_info with_traceback add_note format format_map attrgetter breakpoint "
    "builtins compile copyright credits delattr dir eval exec exit gc getattr globals hasattr help id importlib "
    "license locals methodcaller os quit setattr super vars sys chr print".split()
)
KEYWORDS = {
    "sorted": {"key", "reverse"}, "min": {"key", "default"}, "max": {"key", "default"}, "sum": {"start"},
    "enumerate": {"start"}, "zip": {"strict"},
}
WALKED = {"zip", "enumerate", "reversed", "range", "items", "keys", "values"}
WALKERS = set("list tuple dict sorted sum any all enumerate zip min max".split())
NAMES_OF_VALUES = set().union(*(dir(kind) for kind in (str, int, list, dict, set, bytes)))
NO_FILES = set("test tests testing site conftest sitecustomize usercustomize".split()) | set(dir(builtins))


def files():
    return sorted(path for path in PACKAGE.rglob("*") if path.is_file() and "__pycache__" not in path.parts)


def module_of(path):
    parts = list(path.relative_to(ROOT).with_suffix("").parts)
    return ".".join(parts[:-1] if parts[-1] == "__init__" else parts)


def trees():
    return {module_of(path): (path, ast.parse(path.read_text())) for path in files()}


def is_docstring(node, body):
    return node is body[0] and isinstance(node, ast.Expr) and isinstance(node.value, ast.Constant)


class Files(unittest.TestCase):
    def test_names_of_files(self):
        self.assertIn(PACKAGE / "errors.py", files())
        for path in files():
            with self.subTest(path=path):
                self.assertRegex(path.name, r"\A[a-z0-9_]+\.py\Z")
                self.assertTrue((path.parent / "__init__.py").is_file())
                self.assertNotIn(path.stem, NO_FILES)
                self.assertNotIn(path.parent.name, NO_FILES)
                self.assertFalse(path.stem.startswith("test_"))

    def test_signs_and_size(self):
        for path in files():
            text = path.read_text(encoding="utf-8")
            with self.subTest(path=path):
                self.assertRegex(text, r"\A[ -~\n]*\Z")
                self.assertLessEqual(len(text.splitlines()), 400)
                self.assertLessEqual(max(map(len, text.splitlines())), 120)
                self.assertIsNone(NO_WORDS.search(text))

    def test_size_of_functions(self):
        for path, tree in trees().values():
            for node in ast.walk(tree):
                if isinstance(node, ast.FunctionDef):
                    with self.subTest(path=path, function=node.name):
                        self.assertLessEqual(node.end_lineno - node.lineno + 1, 40)


class Imports(unittest.TestCase):
    def test_names_are_drawn_from_where_they_are_defined(self):
        known = trees()
        for module, (path, tree) in known.items():
            for node in ast.walk(tree):
                if isinstance(node, ast.ImportFrom):
                    with self.subTest(module=module, line=node.lineno):
                        self.assertEqual(node.level, 0)
                        self.assertIn(node, tree.body)
                        self.assertIn(node.module, known)
                        for alias in node.names:
                            self.assertIn(alias.name, defined_in(known[node.module][1]))

    def test_no_two_files_draw_from_one_another(self):
        known = trees()
        drawn = {module: drawn_from(tree, known) for module, (path, tree) in known.items()}
        for module in drawn:
            reached = set()
            waiting = list(drawn[module])
            while waiting:
                other = waiting.pop()
                if other not in reached:
                    reached.add(other)
                    waiting.extend(drawn[other])
            with self.subTest(module=module):
                self.assertNotIn(module, reached)


def defined_in(tree):
    names = [node.name for node in tree.body if isinstance(node, (ast.FunctionDef, ast.ClassDef))]
    for node in tree.body:
        if isinstance(node, ast.Assign):
            names.extend(target.id for target in node.targets)
    return names


def drawn_from(tree, known):
    drawn = set()
    for node in tree.body:
        if isinstance(node, ast.ImportFrom):
            parts = node.module.split(".")
            drawn.update(".".join(parts[:many]) for many in range(1, len(parts) + 1))
    return drawn & set(known)


def nodes(*kinds):
    """Each node of these kinds, with where it stands."""
    for path, tree in trees().values():
        for node in ast.walk(tree):
            if isinstance(node, kinds):
                yield f"{path.relative_to(ROOT)}:{getattr(node, 'lineno', '')}", node


class Forms(unittest.TestCase):
    def test_tops(self):
        for path, tree in trees().values():
            bound = defined_in(tree)
            self.assertEqual(len(bound), len(set(bound)), path)
            for node in tree.body:
                if not is_docstring(node, tree.body):
                    kinds = (ast.ImportFrom, ast.FunctionDef, ast.ClassDef, ast.Assign)
                    self.assertIsInstance(node, kinds, (path, node.lineno))

    def test_statements(self):
        for where, node in nodes(ast.stmt):
            self.assertIsInstance(node, STATEMENTS, where)
        for where, node in nodes(ast.Try):
            self.assertEqual(node.finalbody, [], where)
        for where, node in nodes(ast.For, ast.While):
            self.assertEqual(node.orelse, [], where)
        for where, node in nodes(ast.Assign):
            self.assertEqual(len(node.targets), 1, where)

    def test_bare_expressions_are_calls(self):
        for path, tree in trees().values():
            for node in ast.walk(tree):
                if isinstance(node, ast.Expr) and not is_docstring(node, tree.body):
                    self.assertIsInstance(node.value, ast.Call, (path, node.lineno))

    def test_expressions(self):
        for where, node in nodes(ast.expr):
            self.assertIsInstance(node, EXPRESSIONS, where)
        for where, node in nodes(ast.ListComp):
            self.assertEqual(len(node.generators), 1, where)
            self.assertLessEqual(len(node.generators[0].ifs), 1, where)
        for where, node in nodes(ast.FormattedValue):
            self.assertIsInstance(node.value, ast.Name, where)
            self.assertIsNone(node.format_spec, where)

    def test_constants_and_operators(self):
        for where, node in nodes(ast.Constant):
            self.assertIn(type(node.value), (int, str, bool, type(None)), where)
            if isinstance(node.value, str):
                self.assertNotIn("%", node.value, where)
        for where, node in nodes(ast.BinOp):
            self.assertNotIsInstance(node.op, (ast.Div, ast.MatMult), where)
            if isinstance(node.op, ast.Pow):
                self.assertIsInstance(node.right, ast.Constant, where)
        for where, node in nodes(ast.Compare):
            if any(isinstance(op, (ast.Is, ast.IsNot)) for op in node.ops):
                sides = [side.value for side in [node.left] + node.comparators if isinstance(side, ast.Constant)]
                self.assertTrue(any(side is None or isinstance(side, bool) for side in sides), where)

    def test_functions_and_classes(self):
        for where, node in nodes(ast.FunctionDef):
            self.assertEqual(node.decorator_list, [], where)
            self.assertIsNone(node.args.vararg, where)
            self.assertIsNone(node.args.kwarg, where)
            self.assertEqual(node.args.kwonlyargs + node.args.posonlyargs, [], where)
        for where, node in nodes(ast.ClassDef):
            self.assertEqual(node.decorator_list + node.keywords, [], where)
            self.assertLessEqual(len(node.bases), 1, where)
            for part in node.body:
                self.assertIsInstance(part, (ast.FunctionDef, ast.Pass), where)

    def test_names(self):
        for where, node in nodes(ast.Name, ast.arg, ast.FunctionDef, ast.ClassDef, ast.Attribute):
            name = next(getattr(node, part) for part in ("id", "arg", "name", "attr") if hasattr(node, part))
            self.assertNotIn(name, NO_NAMES, where)
            if name not in TWO_UNDERSCORES:
                self.assertRegex(name, r"\A[A-Za-z][A-Za-z0-9_]*\Z", where)

    def test_names_of_pythons_own(self):
        for where, node in nodes(ast.Name, ast.arg):
            if isinstance(node, ast.Name) and isinstance(node.ctx, ast.Load):
                if node.id in dir(builtins):
                    self.assertIn(node.id, OWN_OF_PYTHON, where)
            else:
                self.assertNotIn(node.id if isinstance(node, ast.Name) else node.arg, dir(builtins), where)

    def test_methods_called(self):
        own = {node.name for where, node in nodes(ast.FunctionDef)}
        for where, node in nodes(ast.Call):
            if isinstance(node.func, ast.Attribute):
                self.assertIn(node.func.attr, METHODS | own | TWO_UNDERSCORES, where)

    def test_methods_and_values_of_objects(self):
        methods = {part.name for where, node in nodes(ast.ClassDef) for part in node.body if not is_pass(part)}
        stored = set()
        for where, node in nodes(ast.Attribute):
            if isinstance(node.ctx, ast.Store):
                stored.add(node.attr)
                self.assertNotIn(node.attr, NAMES_OF_VALUES, where)
        self.assertEqual(methods & stored, set())
        self.assertEqual((methods - TWO_UNDERSCORES) & (NAMES_OF_VALUES - METHODS), set())

    def test_keywords(self):
        for where, node in nodes(ast.Call):
            if name_called(node) in OWN_OF_PYTHON | METHODS:
                used = {keyword.arg for keyword in node.keywords}
                self.assertEqual(used - KEYWORDS.get(name_called(node), set()), set(), where)

    def test_sets_and_what_is_walked_at_once(self):
        for where, node in nodes(ast.AST):
            for child in ast.iter_child_nodes(node):
                if not isinstance(child, ast.Call):
                    continue
                if name_called(child) in ("set", "frozenset"):
                    self.assertTrue(isinstance(node, ast.Compare) or name_called(node) in ("sorted", "len"), where)
                elif name_called(child) in WALKED:
                    first = isinstance(node, ast.Call) and node.args[:1] == [child] and name_called(node) in WALKERS
                    walk = isinstance(node, (ast.For, ast.comprehension)) and node.iter is child
                    self.assertTrue(first or walk or name_called(node) == "join", where)

    def test_locals_are_not_called_like_classes_or_imports(self):
        for path, tree in trees().values():
            taken = {node.name for node in tree.body if isinstance(node, ast.ClassDef)}
            for node in tree.body:
                if isinstance(node, ast.ImportFrom):
                    taken.update(alias.name for alias in node.names)
            for node in ast.walk(tree):
                if isinstance(node, ast.arg):
                    self.assertNotIn(node.arg, taken, path)
                elif isinstance(node, ast.Name) and isinstance(node.ctx, ast.Store):
                    self.assertNotIn(node.id, taken, path)

    def test_imports_are_used(self):
        for path, tree in trees().values():
            used = {node.id for node in ast.walk(tree) if isinstance(node, ast.Name)}
            for node in tree.body:
                if isinstance(node, ast.ImportFrom):
                    self.assertEqual({alias.name for alias in node.names} - used, set(), path)


def is_pass(node):
    return isinstance(node, ast.Pass)


def name_called(node):
    """The name or the method that is called, if the node is a call at all."""
    if not isinstance(node, ast.Call):
        return None
    return node.func.id if isinstance(node.func, ast.Name) else getattr(node.func, "attr", None)


if __name__ == "__main__":
    unittest.main()
