"""Those rules of the language subset that can be read off the files of the package."""

import ast
import builtins
import re
import tokenize
import unittest
from pathlib import Path

PACKAGE = Path(__file__).resolve().parent.parent / "hueshade"
FILES = sorted(PACKAGE.rglob("*.py"))

BUILTINS = set(
    "len range enumerate zip min max sum abs sorted reversed int str bool bytes list tuple dict set frozenset isinstance "
    "ord repr any all divmod iter next super Exception ValueError TypeError KeyError IndexError LookupError "
    "ZeroDivisionError ArithmeticError OverflowError RuntimeError NotImplementedError AttributeError StopIteration "
    "NotImplemented property staticmethod classmethod".split()
)
BARRED_WORDS = (
    "type typing typing_extensions enum Enum IntEnum StrEnum Flag IntFlag Generic Protocol ABC ABCMeta namedtuple "
    "NamedTuple TypedDict TYPE_CHECKING abstractmethod"
).split()
BARRED_PARTS = ("dataclass", "overload", "contextmanager")
BARRED_NAMES = set(
    "register mro elements open input law version_info with_traceback add_note attrgetter breakpoint builtins compile "
    "copyright credits delattr dir eval exec exit gc getattr globals hasattr help id importlib license locals "
    "methodcaller os quit setattr type vars sys chr format format_map".split()
)
BARRED_NODES = (
    ast.Global, ast.AsyncFunctionDef, ast.AsyncFor, ast.AsyncWith, ast.Await, ast.Import, ast.Div, ast.MatMult,
    ast.TryStar, ast.MatchClass, ast.MatchMapping,
)


def nodes_of(path):
    return ast.walk(ast.parse(path.read_text(encoding="utf-8")))


def bound_names(node):
    """The names that a node gives a meaning to."""
    if isinstance(node, (ast.FunctionDef, ast.ClassDef)):
        return [node.name]
    if isinstance(node, ast.arg):
        return [node.arg]
    if isinstance(node, ast.Name) and isinstance(node.ctx, ast.Store):
        return [node.id]
    if isinstance(node, ast.ExceptHandler) and node.name:
        return [node.name]
    return []


def own_names(path):
    """The names that the file defines itself at module level."""
    found = []
    for node in ast.parse(path.read_text(encoding="utf-8")).body:
        if isinstance(node, (ast.FunctionDef, ast.ClassDef)):
            found.append(node.name)
        if isinstance(node, ast.Assign):
            found.extend(target.id for target in node.targets)
    return found


class TestFiles(unittest.TestCase):
    def test_folder_holds_python_files_alone(self):
        self.assertIn(PACKAGE / "__init__.py", FILES)
        for path in PACKAGE.rglob("*"):
            if "__pycache__" in path.parts:
                continue
            self.assertTrue(path.is_file() and re.fullmatch(r"[a-z][a-z0-9_]*\.py|__init__\.py", path.name), path)

    def test_characters_and_sizes(self):
        for path in FILES:
            text = path.read_text(encoding="utf-8")
            self.assertRegex(text, r"\A[\n -~]*\Z", path)
            self.assertLessEqual(len(text.splitlines()), 399, path)
            for row in text.splitlines():
                self.assertLessEqual(len(row), 120, (path, row))

    def test_functions_have_at_most_forty_lines(self):
        for path in FILES:
            for node in nodes_of(path):
                if isinstance(node, ast.FunctionDef):
                    self.assertLessEqual(node.end_lineno - node.lineno + 1, 40, (path, node.name))

    def test_barred_words(self):
        for path in FILES:
            text = path.read_text(encoding="utf-8")
            for word in BARRED_WORDS:
                self.assertIsNone(re.search(rf"\b{word}\b", text), (path, word))
            for part in BARRED_PARTS:
                self.assertNotIn(part, text, path)


class TestImports(unittest.TestCase):
    def test_imports_stand_at_the_top_and_name_the_defining_file(self):
        for path in FILES:
            tree = ast.parse(path.read_text(encoding="utf-8"))
            imports = [node for node in ast.walk(tree) if isinstance(node, ast.ImportFrom)]
            first = 1 if isinstance(tree.body[0], ast.Expr) else 0
            self.assertEqual(tree.body[first:first + len(imports)], imports, path)
            for node in imports:
                self.check_import(path, node)

    def check_import(self, path, node):
        self.assertEqual(node.level, 0, path)
        self.assertRegex(node.module, r"\Ahueshade\.[a-z][a-z0-9_]*\Z", path)
        defined = own_names(PACKAGE / (node.module.split(".")[1] + ".py"))
        for name in node.names:
            self.assertIn(name.name, defined, path)


class TestCode(unittest.TestCase):
    def test_module_level(self):
        for path in FILES:
            body = ast.parse(path.read_text(encoding="utf-8")).body
            for at, node in enumerate(body):
                docstring = at == 0 and isinstance(node, ast.Expr) and isinstance(node.value, ast.Constant)
                allowed = (ast.ImportFrom, ast.FunctionDef, ast.ClassDef, ast.Assign)
                self.assertTrue(docstring or isinstance(node, allowed), (path, node.lineno))
            names = own_names(path)
            self.assertEqual(len(names), len(set(names)), path)

    def test_barred_statements_and_values(self):
        for path in FILES:
            for node in nodes_of(path):
                self.assertNotIsInstance(node, BARRED_NODES, path)
                if isinstance(node, ast.Constant):
                    self.assertNotIsInstance(node.value, (float, complex), (path, node.lineno))
                if isinstance(node, ast.Constant) and isinstance(node.value, str):
                    self.assertNotIn("\x25", node.value, (path, node.lineno))
                if isinstance(node, ast.FunctionDef):
                    self.assertEqual(node.args.posonlyargs, [], (path, node.name))

    def test_is_stands_beside_none_true_and_false_alone(self):
        for path in FILES:
            for node in nodes_of(path):
                if isinstance(node, ast.Compare):
                    for sign, right in zip(node.ops, node.comparators):
                        if isinstance(sign, (ast.Is, ast.IsNot)):
                            self.assertIsInstance(right, ast.Constant, (path, node.lineno))

    def test_names(self):
        for path in FILES:
            for node in nodes_of(path):
                for name in bound_names(node):
                    if name.startswith("__") and isinstance(node, ast.FunctionDef):
                        continue
                    self.assertRegex(name, r"\A[A-Za-z][A-Za-z0-9_]*\Z", (path, name))
                    self.assertNotIn(name, BARRED_NAMES, path)

    def test_builtins_that_are_read(self):
        for path in FILES:
            for node in nodes_of(path):
                if isinstance(node, ast.Name) and isinstance(node.ctx, ast.Load) and hasattr(builtins, node.id):
                    self.assertIn(node.id, BUILTINS, (path, node.lineno))

    def test_error_classes_hold_no_values(self):
        for node in nodes_of(PACKAGE / "errors.py"):
            if isinstance(node, ast.ClassDef):
                for row in node.body:
                    self.assertNotIsInstance(row, (ast.Assign, ast.AnnAssign), node.name)

    def test_escapes_in_strings(self):
        for path in FILES:
            with tokenize.open(path) as source:
                for token in tokenize.generate_tokens(source.readline):
                    if token.type == tokenize.STRING:
                        self.assertIsNone(re.search(r"\\[^nt\\'\"]", token.string), (path, token.start))


if __name__ == "__main__":
    unittest.main()
