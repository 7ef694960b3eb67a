"""The package keeps to its part of Python: what of it can be seen from the files."""

import ast
import builtins
import pathlib
import re
import unittest

PACKAGE = pathlib.Path(__file__).resolve().parent.parent / "surveyed"

STATEMENTS = (
    ast.Assign, ast.AugAssign, ast.If, ast.While, ast.For, ast.Return, ast.Break, ast.Continue, ast.Pass, ast.Raise,
    ast.Try, ast.Expr, ast.FunctionDef, ast.ClassDef, ast.ImportFrom,
)
EXPRESSIONS = (
    ast.Constant, ast.Name, ast.Attribute, ast.Subscript, ast.Slice, ast.Call, ast.BinOp, ast.UnaryOp, ast.BoolOp,
    ast.Compare, ast.IfExp, ast.List, ast.Tuple, ast.Dict, ast.ListComp, ast.JoinedStr, ast.FormattedValue,
    ast.Lambda,
)
OWN_NAMES = (
    "len range enumerate zip min max sum abs sorted reversed int str bool list tuple dict set frozenset isinstance ord "
    "repr any all divmod"
).split()
METHODS = (
    "append clear copy count endswith extend find get index insert isalnum isalpha isdigit islower isspace isupper "
    "items join keys ljust lower lstrip partition pop remove replace reverse rfind rjust rpartition rsplit rstrip "
    "setdefault split splitlines startswith strip update upper values zfill bit_length"
).split()
WORDS_NOT_USED = (
    "type typing typing_extensions enum Enum IntEnum StrEnum Flag IntFlag Generic Protocol ABC ABCMeta namedtuple "
    "NamedTuple TypedDict TYPE_CHECKING abstractmethod"
).split()


def files():
    return sorted(PACKAGE.glob("*.py"))


def trees():
    return [(path, ast.parse(path.read_text("ascii"))) for path in files()]


def nodes():
    return [(f"{path.name}:{getattr(node, 'lineno', 0)}", node) for path, tree in trees() for node in ast.walk(tree)]


class Language(unittest.TestCase):
    def test_files(self):
        self.assertIn("__init__.py", [path.name for path in files()])
        for path in PACKAGE.iterdir():
            if path.name != "__pycache__":
                self.assertRegex(path.name, r"^[a-z0-9_]+\.py$")

    def test_signs_and_sizes(self):
        for path in files():
            lines = path.read_text("ascii").split("\n")
            self.assertLessEqual(len(lines), 400, path.name)
            for at, line in enumerate(lines, start=1):
                self.assertLessEqual(len(line), 120, f"{path.name}:{at}")
                self.assertRegex(line, r"^[ -~]*$", f"{path.name}:{at}")
                for word in re.findall(r"\w+", line):
                    self.assertNotIn(word, WORDS_NOT_USED, f"{path.name}:{at}")
        for place, node in nodes():
            if isinstance(node, ast.FunctionDef):
                self.assertLessEqual(node.end_lineno - node.lineno + 1, 40, place)

    def test_statements_and_expressions(self):
        for place, node in nodes():
            if isinstance(node, ast.stmt):
                self.assertIsInstance(node, STATEMENTS, place)
            if isinstance(node, ast.expr):
                self.assertIsInstance(node, EXPRESSIONS, place)
            if isinstance(node, ast.Constant):
                self.assertNotIsInstance(node.value, (float, bytes, complex), place)
            if isinstance(node, ast.FormattedValue):
                self.assertIsInstance(node.value, ast.Name, place)
            if isinstance(node, ast.Assign):
                self.assertEqual(len(node.targets), 1, place)
                self.assertNotIsInstance(node.targets[0], (ast.Tuple, ast.List), place)
            if isinstance(node, (ast.For, ast.While)):
                self.assertEqual(node.orelse, [], place)
            if isinstance(node, ast.ListComp):
                self.assertEqual(len(node.generators), 1, place)
                self.assertLessEqual(len(node.generators[0].ifs), 1, place)
            self.assertNotIsInstance(node, (ast.Div, ast.MatMult), place)

    def test_imports(self):
        for place, node in nodes():
            if isinstance(node, ast.ImportFrom):
                self.assertEqual(node.level, 0, place)
                self.assertRegex(node.module, r"^surveyed\.[a-z]+$", place)
                self.assertTrue(all(alias.name != "*" and alias.asname is None for alias in node.names), place)

    def test_names(self):
        for path, tree in trees():
            bound = set()
            for node in ast.walk(tree):
                if isinstance(node, (ast.FunctionDef, ast.ClassDef)):
                    bound.add(node.name)
                elif isinstance(node, ast.arg):
                    bound.add(node.arg)
                elif isinstance(node, ast.alias):
                    bound.add(node.name)
                elif isinstance(node, ast.Name) and isinstance(node.ctx, ast.Store):
                    bound.add(node.id)
            self.assertEqual(bound & set(dir(builtins)), set(), path.name)
            for name in bound - {"__init__"}:
                self.assertRegex(name, r"^[A-Za-z][A-Za-z0-9_]*$", path.name)
            for node in ast.walk(tree):
                if isinstance(node, ast.Name) and node.id not in bound:
                    self.assertIn(node.id, OWN_NAMES, f"{path.name}:{node.lineno}")

    def test_locals_are_not_called_like_what_the_file_holds(self):
        for path, tree in trees():
            held = set()
            for node in tree.body:
                if isinstance(node, (ast.FunctionDef, ast.ClassDef)):
                    held.add(node.name)
                elif isinstance(node, ast.ImportFrom):
                    held.update(alias.name for alias in node.names)
            for node in ast.walk(tree):
                if isinstance(node, ast.Name) and isinstance(node.ctx, ast.Store):
                    self.assertNotIn(node.id, held, f"{path.name}:{node.lineno}")
                if isinstance(node, ast.arg):
                    self.assertNotIn(node.arg, held, f"{path.name}:{node.lineno}")

    def test_methods(self):
        own = set()
        for place, node in nodes():
            if isinstance(node, ast.ClassDef):
                own.update(part.name for part in node.body if isinstance(part, ast.FunctionDef))
        for place, node in nodes():
            if isinstance(node, ast.Call) and isinstance(node.func, ast.Attribute):
                self.assertIn(node.func.attr, own | set(METHODS), place)


if __name__ == "__main__":
    unittest.main()
