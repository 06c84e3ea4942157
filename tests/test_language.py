"""The package keeps to the small part of the language: what can be seen by a walk over its files."""

import ast
import builtins
import re
import unittest
from pathlib import Path

FOLDER = Path(__file__).resolve().parent.parent / "tautstrings"
FILES = sorted(FOLDER.glob("*.py"))

STATEMENTS = (ast.Assign, ast.AugAssign, ast.If, ast.While, ast.For, ast.Return, ast.Break, ast.Continue, ast.Pass,
              ast.Raise, ast.Try, ast.Expr, ast.FunctionDef, ast.ClassDef, ast.ImportFrom)
EXPRESSIONS_OUT = (ast.Set, ast.SetComp, ast.DictComp, ast.GeneratorExp, ast.NamedExpr, ast.Starred, ast.Await,
                   ast.Yield, ast.YieldFrom, ast.Div, ast.MatMult)
PYTHONS_OWN = set("""len range enumerate zip min max sum abs sorted reversed int str bool list tuple dict set frozenset
    isinstance ord repr any all divmod""".split())
METHODS = set("""append clear copy count endswith extend find get index insert isalnum isalpha isdigit islower isspace
    isupper items join keys ljust lower lstrip partition pop remove replace reverse rfind rjust rpartition rsplit
    rstrip setdefault split splitlines startswith strip update upper values zfill bit_length""".split())
WORDS_OUT = set("""type typing typing_extensions enum Enum IntEnum StrEnum Flag IntFlag Generic Protocol ABC ABCMeta
    namedtuple NamedTuple TypedDict TYPE_CHECKING abstractmethod""".split())
NAMES_OUT = set("""register mro elements open input version_info with_traceback add_note chr print sys os""".split())


class Language(unittest.TestCase):
    def trees(self):
        for file in FILES:
            yield file.name, ast.parse(file.read_text())

    def nodes(self):
        for name, tree in self.trees():
            for node in ast.walk(tree):
                yield f"{name}:{getattr(node, 'lineno', 0)}", node

    def test_files(self):
        self.assertIn("__init__.py", [file.name for file in FILES])
        for entry in FOLDER.iterdir():
            if entry.name != "__pycache__":
                self.assertRegex(entry.name, r"^([a-z][a-z0-9_]*|__init__|__main__)\.py$")

    def test_signs_and_sizes(self):
        for file in FILES:
            text = file.read_text()
            self.assertRegex(text, r"^[\n -~]*$", file.name)
            self.assertLessEqual(len(text.split("\n")), 400, file.name)
            self.assertLessEqual(max(len(line) for line in text.split("\n")), 120, file.name)
            self.assertEqual(WORDS_OUT & set(re.findall(r"\w+", text)), set(), file.name)
            self.assertNotRegex(text, r"dataclass|overload|contextmanager", file.name)
        for at, node in self.nodes():
            if isinstance(node, ast.FunctionDef):
                self.assertLessEqual(node.end_lineno - node.lineno + 1, 40, at)

    def test_imports(self):
        for at, node in self.nodes():
            if isinstance(node, ast.ImportFrom):
                self.assertTrue(node.level == 0 and node.module.startswith("tautstrings."), at)
                self.assertTrue((FOLDER / f"{node.module.split('.')[1]}.py").exists(), at)
        for name, tree in self.trees():
            drawn = [alias.name for node in tree.body if isinstance(node, ast.ImportFrom) for alias in node.names]
            names = [node for node in ast.walk(tree) if isinstance(node, ast.Name)]
            used = {node.id for node in names}
            bound = {node.id for node in names if isinstance(node.ctx, ast.Store)}
            told = {node.arg for node in ast.walk(tree) if isinstance(node, ast.arg)}
            self.assertEqual(set(drawn) - used, set(), name)
            self.assertEqual(set(drawn) & (bound | told), set(), name)

    def test_no_file_draws_from_itself_by_others(self):
        draws = {name[:-3]: [node.module.split(".")[1] for node in tree.body if isinstance(node, ast.ImportFrom)]
                 for name, tree in self.trees()}
        while draws:
            free = [name for name in draws if not any(other in draws for other in draws[name])]
            self.assertNotEqual(free, [], draws)
            for name in free:
                del draws[name]

    def test_methods_and_values(self):
        methods = set()
        values = set()
        for at, node in self.nodes():
            if isinstance(node, ast.ClassDef):
                methods |= {inner.name for inner in node.body if isinstance(inner, ast.FunctionDef)}
            elif isinstance(node, ast.Attribute) and isinstance(node.ctx, ast.Store):
                values.add(node.attr)
        self.assertEqual(methods & values, set())

    def test_statements_and_expressions(self):
        for at, node in self.nodes():
            if isinstance(node, ast.stmt):
                self.assertIsInstance(node, STATEMENTS, at)
            self.assertNotIsInstance(node, EXPRESSIONS_OUT, at)
            if isinstance(node, ast.Constant):
                self.assertIsInstance(node.value, (int, str, type(None)), at)
            if isinstance(node, ast.Assign):
                self.assertEqual(len(node.targets), 1, at)
            if isinstance(node, (ast.For, ast.While)):
                self.assertEqual(node.orelse, [], at)
            if isinstance(node, (ast.FunctionDef, ast.ClassDef)):
                self.assertEqual(node.decorator_list, [], at)

    def test_names(self):
        own = set()
        for at, node in self.nodes():
            if isinstance(node, (ast.FunctionDef, ast.ClassDef)):
                own.add(node.name)
            elif isinstance(node, ast.Name) and isinstance(node.ctx, ast.Store):
                own.add(node.id)
            elif isinstance(node, ast.Attribute) and isinstance(node.ctx, ast.Store):
                own.add(node.attr)
            elif isinstance(node, ast.arg):
                own.add(node.arg)
        self.assertEqual(own & (PYTHONS_OWN | NAMES_OUT | set(dir(builtins))), set())
        self.assertEqual([name for name in own if name.startswith("_") and name != "__init__"], [])
        for at, node in self.nodes():
            if isinstance(node, ast.Name):
                self.assertIn(node.id, own | PYTHONS_OWN, at)
            if isinstance(node, ast.Attribute):
                self.assertIn(node.attr, own | METHODS, at)
