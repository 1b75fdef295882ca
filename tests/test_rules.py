"""Those rules of the language subset that can be read off the files of the package."""

import ast
import builtins
import re
import tokenize
import unittest
from pathlib import Path

PACKAGE = Path(__file__).resolve().parent.parent / "hueshade"
FILES = sorted(PACKAGE.rglob("*.py"))

BUILTINS = set(
    "len range enumerate zip min max sum abs sorted reversed int str bool bytes list tuple dict set frozenset isinstance "
    "ord repr any all divmod iter next super Exception ValueError TypeError KeyError IndexError LookupError "
    "ZeroDivisionError ArithmeticError OverflowError RuntimeError NotImplementedError AttributeError StopIteration "
    "NotImplemented property staticmethod classmethod".split()
)
BARRED_WORDS = (
    "type typing typing_extensions enum Enum IntEnum StrEnum Flag IntFlag Generic Protocol ABC ABCMeta namedtuple "
    "NamedTuple TypedDict TYPE_CHECKING abstractmethod"
).split()
BARRED_PARTS = ("dataclass", "overload", "contextmanager")
BARRED_NAMES = set(
    "register mro elements open input law version_info with_traceback add_note attrgetter breakpoint builtins compile "
    "copyright credits delattr dir eval exec exit gc getattr globals hasattr help id importlib license locals "
    "methodcaller os quit setattr type vars sys chr format format_map".split()
)
METHODS_OF_BUILTINS = set(
    "append clear copy count endswith extend find get index insert isalnum isalpha isdigit islower isspace isupper items "
    "join keys ljust lower lstrip partition pop remove replace reverse rfind rjust rpartition rsplit rstrip setdefault "
    "split splitlines startswith strip update upper values zfill bit_length title capitalize swapcase casefold center "
    "expandtabs removeprefix removesuffix rindex isascii isdecimal isnumeric istitle isidentifier isprintable "
    "translate add discard".split()
)
DOUBLE_UNDERSCORES = {"__init__", "__eq__", "__repr__", "__str__", "__len__"}
BARRED_NODES = (
    ast.Global, ast.AsyncFunctionDef, ast.AsyncFor, ast.AsyncWith, ast.Await, ast.Import, ast.Div, ast.MatMult,
    ast.TryStar, ast.MatchClass, ast.MatchMapping,
)


def nodes_of(path):
    return ast.walk(ast.parse(path.read_text(encoding="utf-8")))


def bound_names(node):
    """The names that a node gives a meaning to."""
    if isinstance(node, (ast.FunctionDef, ast.ClassDef)):
        return [node.name]
    if isinstance(node, ast.arg):
        return [node.arg]
    if isinstance(node, ast.Name) and isinstance(node.ctx, ast.Store):
        return [node.id]
    if isinstance(node, ast.ExceptHandler) and node.name:
        return [node.name]
    return []


def trees():
    return [(path, ast.parse(path.read_text(encoding="utf-8"))) for path in FILES]


def all_nodes(kind):
    """All nodes of a kind in all files, with their files."""
    return [(path, node) for path, tree in trees() for node in ast.walk(tree) if isinstance(node, kind)]


def methods():
    return [(path, row) for path, node in all_nodes(ast.ClassDef) for row in node.body if isinstance(row, ast.FunctionDef)]


def calls_of(node, name):
    return isinstance(node, ast.Call) and isinstance(node.func, ast.Name) and node.func.id == name


def own_names(path):
    """The names that the file defines itself at module level."""
    found = []
    for node in ast.parse(path.read_text(encoding="utf-8")).body:
        if isinstance(node, (ast.FunctionDef, ast.ClassDef)):
            found.append(node.name)
        if isinstance(node, ast.Assign):
            found.extend(target.id for target in node.targets)
    return found


class TestFiles(unittest.TestCase):
    def test_folder_holds_python_files_alone(self):
        self.assertIn(PACKAGE / "__init__.py", FILES)
        for path in PACKAGE.rglob("*"):
            if "__pycache__" in path.parts:
                continue
            self.assertTrue(path.is_file() and re.fullmatch(r"[a-z][a-z0-9_]*\.py|__init__\.py", path.name), path)

    def test_characters_and_sizes(self):
        for path in FILES:
            text = path.read_text(encoding="utf-8")
            self.assertRegex(text, r"\A[\n -~]*\Z", path)
            self.assertLessEqual(len(text.splitlines()), 399, path)
            for row in text.splitlines():
                self.assertLessEqual(len(row), 120, (path, row))

    def test_functions_have_at_most_forty_lines(self):
        for path in FILES:
            for node in nodes_of(path):
                if isinstance(node, ast.FunctionDef):
                    self.assertLessEqual(node.end_lineno - node.lineno + 1, 40, (path, node.name))

    def test_barred_words(self):
        for path in FILES:
            text = path.read_text(encoding="utf-8")
            for word in BARRED_WORDS:
                self.assertIsNone(re.search(rf"\b{word}\b", text), (path, word))
            for part in BARRED_PARTS:
                self.assertNotIn(part, text, path)


class TestImports(unittest.TestCase):
    def test_imports_stand_at_the_top_and_name_the_defining_file(self):
        for path in FILES:
            tree = ast.parse(path.read_text(encoding="utf-8"))
            imports = [node for node in ast.walk(tree) if isinstance(node, ast.ImportFrom)]
            first = 1 if isinstance(tree.body[0], ast.Expr) else 0
            self.assertEqual(tree.body[first:first + len(imports)], imports, path)
            for node in imports:
                self.check_import(path, node)

    def test_no_two_files_import_from_each_other(self):
        ahead = {}
        for path, node in all_nodes(ast.ImportFrom):
            ahead.setdefault(path.stem, set()).add(node.module.split(".")[1])
        done = set()
        while len(done) < len(FILES):
            free = [path.stem for path in FILES if path.stem not in done and ahead.get(path.stem, set()) <= done]
            self.assertTrue(free, [path.stem for path in FILES if path.stem not in done])
            done.update(free)

    def test_imports_are_used(self):
        for path, tree in trees():
            read = {node.id for node in ast.walk(tree) if isinstance(node, ast.Name)}
            for node in ast.walk(tree):
                if isinstance(node, ast.ImportFrom):
                    for name in node.names:
                        self.assertIn(name.name, read, path)

    def check_import(self, path, node):
        self.assertEqual(node.level, 0, path)
        self.assertRegex(node.module, r"\Ahueshade\.[a-z][a-z0-9_]*\Z", path)
        defined = own_names(PACKAGE / (node.module.split(".")[1] + ".py"))
        for name in node.names:
            self.assertIn(name.name, defined, path)


class TestCode(unittest.TestCase):
    def test_module_level(self):
        for path in FILES:
            body = ast.parse(path.read_text(encoding="utf-8")).body
            for at, node in enumerate(body):
                docstring = at == 0 and isinstance(node, ast.Expr) and isinstance(node.value, ast.Constant)
                allowed = (ast.ImportFrom, ast.FunctionDef, ast.ClassDef, ast.Assign)
                self.assertTrue(docstring or isinstance(node, allowed), (path, node.lineno))
            names = own_names(path)
            self.assertEqual(len(names), len(set(names)), path)

    def test_barred_statements_and_values(self):
        for path in FILES:
            for node in nodes_of(path):
                self.assertNotIsInstance(node, BARRED_NODES, path)
                if isinstance(node, ast.Constant):
                    self.assertNotIsInstance(node.value, (float, complex), (path, node.lineno))
                if isinstance(node, ast.Constant) and isinstance(node.value, str):
                    self.assertNotIn("\x25", node.value, (path, node.lineno))
                if isinstance(node, ast.FunctionDef):
                    self.assertEqual(node.args.posonlyargs, [], (path, node.name))

    def test_is_stands_beside_none_true_and_false_alone(self):
        for path in FILES:
            for node in nodes_of(path):
                if isinstance(node, ast.Compare):
                    for sign, right in zip(node.ops, node.comparators):
                        if isinstance(sign, (ast.Is, ast.IsNot)):
                            self.assertIsInstance(right, ast.Constant, (path, node.lineno))

    def test_names(self):
        for path in FILES:
            for node in nodes_of(path):
                for name in bound_names(node):
                    if name.startswith("__") and isinstance(node, ast.FunctionDef):
                        continue
                    self.assertRegex(name, r"\A[A-Za-z][A-Za-z0-9_]*\Z", (path, name))
                    self.assertNotIn(name, BARRED_NAMES, path)

    def test_builtins_that_are_read(self):
        for path in FILES:
            for node in nodes_of(path):
                if isinstance(node, ast.Name) and isinstance(node.ctx, ast.Load) and hasattr(builtins, node.id):
                    self.assertIn(node.id, BUILTINS, (path, node.lineno))

    def test_error_classes_hold_no_values(self):
        for node in nodes_of(PACKAGE / "errors.py"):
            if isinstance(node, ast.ClassDef):
                for row in node.body:
                    self.assertNotIsInstance(row, (ast.Assign, ast.AnnAssign), node.name)

    def test_no_name_is_a_method_and_an_attribute(self):
        assigned = {node.attr for path, node in all_nodes(ast.Attribute) if isinstance(node.ctx, ast.Store)}
        for path, method in methods():
            self.assertNotIn(method.name, assigned, path)
        read = {node.attr for path, node in all_nodes(ast.Attribute) if isinstance(node.ctx, ast.Load)}
        known = assigned | {method.name for path, method in methods()} | METHODS_OF_BUILTINS
        self.assertLessEqual(read, known)

    def test_double_underscore_methods(self):
        for path, method in methods():
            if method.name.startswith("__"):
                self.assertIn(method.name, DOUBLE_UNDERSCORES, path)
        for path, method in methods():
            if method.name in ("__eq__", "__repr__", "__str__", "__len__"):
                for node in ast.walk(method):
                    self.assertNotIsInstance(node, (ast.Assign, ast.AugAssign, ast.Delete), (path, method.name))
                self.assertIsInstance(method.body[-1], ast.Return, (path, method.name))
            for node in ast.walk(method):
                if method.name == "__len__" and isinstance(node, ast.Return):
                    self.assertTrue(calls_of(node.value, "len"), path)
                if method.name in ("__repr__", "__str__") and isinstance(node, ast.Return):
                    told = node.value
                    self.assertTrue(isinstance(told, ast.JoinedStr) or calls_of(told, "str") or calls_of(told, "repr"), path)

    def test_no_generators(self):
        # A class has == and len, so that any, all, sum and the like take lists.
        self.assertEqual(all_nodes((ast.GeneratorExp, ast.Yield, ast.YieldFrom)), [])

    def test_sets_stand_in_sorted_and_len_or_behind_in(self):
        let = set()
        for path, node in all_nodes((ast.Call, ast.Compare)):
            if calls_of(node, "sorted") or calls_of(node, "len"):
                let.update(map(ast.dump, node.args))
            if isinstance(node, ast.Compare):
                let.update(map(ast.dump, node.comparators))
        for path, node in all_nodes((ast.Call, ast.Set, ast.SetComp)):
            if not isinstance(node, ast.Call) or calls_of(node, "set"):
                self.assertIn(ast.dump(node), let, (path, node.lineno))

    def test_no_sort_in_place(self):
        for path, node in all_nodes(ast.Attribute):
            self.assertNotIn(node.attr, ("sort", "format", "args"), (path, node.lineno))

    def test_powers_have_a_literal_exponent(self):
        for path, node in all_nodes(ast.BinOp):
            if isinstance(node.op, ast.Pow):
                self.assertIsInstance(node.right, ast.Constant, (path, node.lineno))

    def test_raise_makes_its_error_on_the_spot(self):
        classes = {node.name for path, node in all_nodes(ast.ClassDef)}
        for path, node in all_nodes(ast.Raise):
            self.assertTrue(isinstance(node.exc, ast.Call) and node.exc.func.id in classes, (path, node.lineno))

    def test_handlers_name_own_errors(self):
        own = {node.name for path, node in all_nodes(ast.ClassDef)}
        for path, node in all_nodes(ast.ExceptHandler):
            named = node.type.elts if isinstance(node.type, ast.Tuple) else [node.type]
            for name in named:
                self.assertIn(name.id, own, (path, node.lineno))

    def test_no_local_name_is_an_import_a_class_or_a_builtin(self):
        for path, tree in trees():
            taken = {name.name for node in tree.body if isinstance(node, ast.ImportFrom) for name in node.names}
            taken |= {node.name for node in tree.body if isinstance(node, ast.ClassDef)}
            for top in tree.body:
                if not isinstance(top, (ast.FunctionDef, ast.ClassDef)):
                    continue
                for node in ast.walk(top):
                    if isinstance(node, ast.ClassDef) or (isinstance(top, ast.ClassDef) and isinstance(node, ast.FunctionDef)):
                        continue
                    for name in bound_names(node):
                        self.assertNotIn(name, taken, path)
                        self.assertFalse(hasattr(builtins, name), (path, name))

    def test_module_level_lists_and_dicts_hold_none(self):
        for path, tree in trees():
            for node in tree.body:
                if isinstance(node, ast.Assign):
                    within = [other for other in ast.walk(node.value) if other is not node.value]
                    self.assertFalse(any(isinstance(other, (ast.List, ast.Dict)) for other in within), (path, node.lineno))

    def test_comprehensions_name_what_no_one_further_out_names(self):
        for path, node in all_nodes((ast.ListComp, ast.SetComp, ast.DictComp)):
            mine = {name for row in node.generators for target in ast.walk(row.target) for name in bound_names(target)}
            for other in ast.walk(node):
                if other is not node and isinstance(other, (ast.ListComp, ast.SetComp, ast.DictComp, ast.Lambda)):
                    for within in ast.walk(other):
                        self.assertFalse(mine & set(bound_names(within)), (path, node.lineno))

    def test_escapes_in_strings(self):
        for path in FILES:
            with tokenize.open(path) as source:
                for token in tokenize.generate_tokens(source.readline):
                    if token.type == tokenize.STRING:
                        self.assertIsNone(re.search(r"\\[^nt\\'\"]", token.string), (path, token.start))


if __name__ == "__main__":
    unittest.main()
