"""The form of the package's files, as far as it can be seen without running them."""

import ast
import builtins
import re
import unittest
from pathlib import Path

PACKAGE = Path(__file__).resolve().parent.parent / "settledatonce"
FILES = sorted(PACKAGE.glob("*.py"))

ALLOWED_BUILTINS = set(
    "len range enumerate zip min max sum abs sorted reversed int str bool list tuple dict set frozenset isinstance "
    "ord repr any all divmod".split()
)
ALLOWED_METHODS = set(
    "append clear copy count endswith extend find get index insert isalnum isalpha isdigit islower isspace isupper "
    "items join keys ljust lower lstrip partition pop remove replace reverse rfind rjust rpartition rsplit rstrip "
    "setdefault split splitlines startswith strip update upper values zfill bit_length".split()
)
FORBIDDEN_NODES = (
    ast.With, ast.Match, ast.Delete, ast.Global, ast.Nonlocal, ast.Assert, ast.Yield, ast.YieldFrom, ast.Await,
    ast.AsyncFor, ast.AsyncWith, ast.AsyncFunctionDef, ast.NamedExpr, ast.SetComp, ast.DictComp, ast.GeneratorExp,
    ast.Starred, ast.Div, ast.Import, ast.MatMult,
)
FORBIDDEN_WORDS = re.compile(
    r"\b(type|typing|typing_extensions|enum|Enum|IntEnum|StrEnum|Flag|IntFlag|Generic|Protocol|ABC|ABCMeta|namedtuple"
    r"|NamedTuple|TypedDict|TYPE_CHECKING|abstractmethod|register|mro|elements|open|input)\b"
    r"|dataclass|overload|contextmanager"
)


def tree_of(path):
    return ast.parse(path.read_text(encoding="utf-8"))


def nodes_of(path, *kinds):
    return [node for node in ast.walk(tree_of(path)) if isinstance(node, kinds)]


def defined_in(path):
    top = tree_of(path).body
    names = [node.name for node in top if isinstance(node, (ast.FunctionDef, ast.ClassDef))]
    return names + [node.targets[0].id for node in top if isinstance(node, ast.Assign)]


def drawn_from(path):
    return {node.module.split(".")[1] for node in nodes_of(path, ast.ImportFrom)}


class FormTest(unittest.TestCase):
    def test_the_files(self):
        lying_there = sorted(path for path in PACKAGE.iterdir() if path.name != "__pycache__")
        self.assertEqual(lying_there, FILES)
        self.assertIn("__init__.py", [path.name for path in FILES])

    def test_sizes_and_signs(self):
        for path in FILES:
            text = path.read_text(encoding="utf-8")
            self.assertLessEqual(set(text), {chr(sign) for sign in range(32, 127)} | {"\n"}, path)
            lines = text.splitlines()
            self.assertLessEqual(len(lines), 400, path)
            self.assertLessEqual(max(len(line) for line in lines), 120, path)
            for function in nodes_of(path, ast.FunctionDef):
                self.assertLessEqual(function.end_lineno - function.lineno + 1, 40, function.name)

    def test_words_that_stand_nowhere(self):
        for path in FILES:
            self.assertIsNone(FORBIDDEN_WORDS.search(path.read_text(encoding="utf-8")), path)

    def test_only_the_packages_own_modules_are_drawn_from(self):
        for path in FILES:
            at_the_top = [node for node in tree_of(path).body if isinstance(node, ast.ImportFrom)]
            self.assertEqual(len(at_the_top), len(nodes_of(path, ast.ImportFrom)), path)
            for node in at_the_top:
                package, module = node.module.split(".")
                self.assertEqual((node.level, package), (0, "settledatonce"), path)
                for alias in node.names:
                    self.assertIn(alias.name, defined_in(PACKAGE / f"{module}.py"), path)
                    self.assertIsNone(alias.asname, path)

    def test_no_two_files_draw_from_one_another(self):
        left = {path.stem: drawn_from(path) for path in FILES}
        while left:
            free = [name for name in left if not left[name] & set(left)]
            self.assertTrue(free, left)
            for name in free:
                left.pop(name)

    def test_no_statement_or_expression_outside_the_rules(self):
        for path in FILES:
            for node in nodes_of(path, *FORBIDDEN_NODES):
                self.fail(f"{path.name}: {ast.dump(node)}")
            for node in nodes_of(path, ast.Constant):
                self.assertNotIsInstance(node.value, (float, bytes, complex), path)
            for node in nodes_of(path, ast.For, ast.While):
                self.assertEqual(node.orelse, [], path)
            for node in nodes_of(path, ast.Assign):
                self.assertEqual(len(node.targets), 1, path)
                self.assertNotIsInstance(node.targets[0], (ast.Tuple, ast.List), path)
            for node in nodes_of(path, ast.FunctionDef, ast.ClassDef):
                self.assertEqual(node.decorator_list, [], path)
            for node in nodes_of(path, ast.arguments):
                self.assertEqual((node.vararg, node.kwarg, node.kwonlyargs), (None, None, []), path)

    def test_names(self):
        for path in FILES:
            for node in nodes_of(path, ast.Name):
                if hasattr(builtins, node.id):
                    self.assertIn(node.id, ALLOWED_BUILTINS, path)
                    self.assertIsInstance(node.ctx, ast.Load, path)
            for node in nodes_of(path, ast.arg):
                self.assertFalse(hasattr(builtins, node.arg), node.arg)
            for node in nodes_of(path, ast.FunctionDef, ast.ClassDef):
                if node.name != "__init__":
                    self.assertFalse(hasattr(builtins, node.name) or node.name.startswith("_"), node.name)
            for node in nodes_of(path, ast.Call):
                if isinstance(node.func, ast.Attribute):
                    self.assertIn(node.func.attr, ALLOWED_METHODS, path)

    def test_no_local_is_called_like_a_class_or_an_import_of_its_file(self):
        for path in FILES:
            taken = {alias.name for node in nodes_of(path, ast.ImportFrom) for alias in node.names}
            taken |= {node.name for node in nodes_of(path, ast.ClassDef)}
            bound = {node.arg for node in nodes_of(path, ast.arg)}
            bound |= {node.id for node in nodes_of(path, ast.Name) if isinstance(node.ctx, ast.Store)}
            self.assertEqual(taken & bound, set(), path)

    def test_each_name_is_bound_once_at_the_top_and_used(self):
        for path in FILES:
            names = defined_in(path) + [alias.name for node in nodes_of(path, ast.ImportFrom) for alias in node.names]
            self.assertEqual(len(names), len(set(names)), path)
            used = {node.id for node in nodes_of(path, ast.Name) if isinstance(node.ctx, ast.Load)}
            for node in nodes_of(path, ast.ImportFrom):
                for alias in node.names:
                    self.assertIn(alias.name, used, path)

    def test_the_top_of_a_file(self):
        for path in FILES:
            body = tree_of(path).body
            self.assertIsInstance(ast.get_docstring(tree_of(path)), str, path)
            for node in body[1:]:
                self.assertIsInstance(node, (ast.ImportFrom, ast.FunctionDef, ast.ClassDef, ast.Assign), path)
                if isinstance(node, ast.Assign):
                    self.assertIsInstance(ast.literal_eval(node.value), (int, str, list, tuple, dict), path)
