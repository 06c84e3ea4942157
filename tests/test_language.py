"""The package keeps to the small part of the language: what can be seen by a walk over its files."""

import ast
import re
import unittest
from pathlib import Path

FOLDER = Path(__file__).resolve().parent.parent / "tautstrings"
FILES = sorted(FOLDER.glob("*.py"))

STATEMENTS = (ast.Assign, ast.AugAssign, ast.If, ast.While, ast.For, ast.Return, ast.Break, ast.Continue, ast.Pass,
              ast.Raise, ast.Try, ast.Expr, ast.FunctionDef, ast.ClassDef, ast.ImportFrom)
EXPRESSIONS_OUT = (ast.Set, ast.SetComp, ast.DictComp, ast.GeneratorExp, ast.NamedExpr, ast.Starred, ast.Await,
                   ast.Yield, ast.YieldFrom, ast.Div, ast.MatMult)
PYTHONS_OWN = set("""len range enumerate zip min max sum abs sorted reversed int str bool list tuple dict set frozenset
    isinstance ord repr any all divmod""".split())
METHODS = set("""append clear copy count endswith extend find get index insert isalnum isalpha isdigit islower isspace
    isupper items join keys ljust lower lstrip partition pop remove replace reverse rfind rjust rpartition rsplit
    rstrip setdefault split splitlines startswith strip update upper values zfill bit_length""".split())
WORDS_OUT = set("""type typing typing_extensions enum Enum IntEnum StrEnum Flag IntFlag Generic Protocol ABC ABCMeta
    namedtuple NamedTuple TypedDict TYPE_CHECKING abstractmethod""".split())
NAMES_OUT = set("""register mro elements open input version_info with_traceback add_note chr print sys os""".split())


class Language(unittest.TestCase):
    def trees(self):
        for file in FILES:
            yield file.name, ast.parse(file.read_text())

    def nodes(self):
        for name, tree in self.trees():
            for node in ast.walk(tree):
                yield f"{name}:{getattr(node, 'lineno', 0)}", node

    def test_files(self):
        self.assertIn("__init__.py", [file.name for file in FILES])
        for entry in FOLDER.iterdir():
            if entry.name != "__pycache__":
                self.assertRegex(entry.name, r"^([a-z][a-z0-9_]*|__init__|__main__)\.py$")

    def test_signs_and_sizes(self):
        for file in FILES:
            text = file.read_text()
            self.assertRegex(text, r"^[\n -~]*$", file.name)
            self.assertLessEqual(len(text.split("\n")), 400, file.name)
            self.assertLessEqual(max(len(line) for line in text.split("\n")), 120, file.name)
            self.assertEqual(WORDS_OUT & set(re.findall(r"\w+", text)), set(), file.name)
        for at, node in self.nodes():
            if isinstance(node, ast.FunctionDef):
                self.assertLessEqual(node.end_lineno - node.lineno + 1, 40, at)

    def test_imports(self):
        for at, node in self.nodes():
            if isinstance(node, ast.ImportFrom):
                self.assertTrue(node.level == 0 and node.module.startswith("tautstrings."), at)
                self.assertTrue((FOLDER / f"{node.module.split('.')[1]}.py").exists(), at)

    def test_statements_and_expressions(self):
        for at, node in self.nodes():
            if isinstance(node, ast.stmt):
                self.assertIsInstance(node, STATEMENTS, at)
            self.assertNotIsInstance(node, EXPRESSIONS_OUT, at)
            if isinstance(node, ast.Constant):
                self.assertIsInstance(node.value, (int, str, type(None)), at)
            if isinstance(node, ast.Assign):
                self.assertEqual(len(node.targets), 1, at)
            if isinstance(node, (ast.For, ast.While)):
                self.assertEqual(node.orelse, [], at)
            if isinstance(node, (ast.FunctionDef, ast.ClassDef)):
                self.assertEqual(node.decorator_list, [], at)

    def test_names(self):
        own = set()
        for at, node in self.nodes():
            if isinstance(node, (ast.FunctionDef, ast.ClassDef)):
                own.add(node.name)
            elif isinstance(node, ast.Name) and isinstance(node.ctx, ast.Store):
                own.add(node.id)
            elif isinstance(node, ast.Attribute) and isinstance(node.ctx, ast.Store):
                own.add(node.attr)
            elif isinstance(node, ast.arg):
                own.add(node.arg)
        self.assertEqual(own & (PYTHONS_OWN | NAMES_OUT), set())
        self.assertEqual([name for name in own if name.startswith("_") and name != "__init__"], [])
        for at, node in self.nodes():
            if isinstance(node, ast.Name):
                self.assertIn(node.id, own | PYTHONS_OWN, at)
            if isinstance(node, ast.Attribute):
                self.assertIn(node.attr, own | METHODS, at)
