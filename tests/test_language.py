"""Some of the rules that the package's files must keep to, L1 to L28, where a short look can tell."""

import ast
import pathlib
import re
import unittest

PACKAGE = pathlib.Path(__file__).resolve().parent.parent / "leavebook"
BUILTINS = set("""len range enumerate zip min max sum abs sorted reversed int str bool bytes list tuple dict set frozenset
isinstance ord repr any all divmod Exception ValueError TypeError KeyError IndexError LookupError ZeroDivisionError
ArithmeticError OverflowError RuntimeError NotImplementedError AttributeError StopIteration super property staticmethod
classmethod""".split())
BARRED = set("""type typing typing_extensions enum Enum IntEnum StrEnum Flag IntFlag Generic Protocol ABC ABCMeta namedtuple
NamedTuple TypedDict TYPE_CHECKING abstractmethod""".split())
NODES = (ast.Global, ast.AsyncFunctionDef, ast.AsyncFor, ast.AsyncWith, ast.Await, ast.NamedExpr, ast.Import, ast.Div)


def files():
    return sorted(PACKAGE.glob("*.py"))


def trees():
    return [(path, ast.parse(path.read_text())) for path in files()]


def bound_names(tree):
    """All names that a file gives a meaning."""
    names = set()
    for node in ast.walk(tree):
        if isinstance(node, (ast.FunctionDef, ast.ClassDef)):
            names.add(node.name)
        elif isinstance(node, ast.arg):
            names.add(node.arg)
        elif isinstance(node, ast.alias):
            names.add(node.asname or node.name)
        elif isinstance(node, ast.Name) and isinstance(node.ctx, ast.Store):
            names.add(node.id)
    return names


class Language(unittest.TestCase):
    def test_only_plain_files(self):
        for path in PACKAGE.iterdir():
            if path.name != "__pycache__":
                self.assertRegex(path.name, r"\A(__init__|[a-z][a-z0-9_]*)\.py\Z")

    def test_sizes_and_signs(self):
        for path in files():
            text = path.read_text()
            self.assertTrue(all(sign == "\n" or " " <= sign <= "~" for sign in text), path)
            self.assertLessEqual(len(text.splitlines()), 400, path)
            self.assertTrue(all(len(line) <= 120 for line in text.splitlines()), path)
            self.assertFalse(BARRED & set(re.findall(r"\w+", text)), path)
            for node in ast.walk(ast.parse(text)):
                if isinstance(node, ast.FunctionDef):
                    self.assertLessEqual(node.end_lineno - node.lineno + 1, 40, (path, node.name))

    def test_imports(self):
        for path, tree in trees():
            for node in ast.walk(tree):
                if isinstance(node, ast.ImportFrom):
                    self.assertEqual((node.level, node.module.split(".")[0]), (0, "leavebook"), path)
                    source = ast.parse((PACKAGE / (node.module.split(".")[1] + ".py")).read_text())
                    defined = {made.name for made in source.body if isinstance(made, (ast.FunctionDef, ast.ClassDef))}
                    defined |= {made.targets[0].id for made in source.body if isinstance(made, ast.Assign)}
                    self.assertLessEqual({alias.name for alias in node.names}, defined, path)

    def test_statements_and_names(self):
        for path, tree in trees():
            names = bound_names(tree)
            for node in ast.walk(tree):
                self.assertNotIsInstance(node, NODES, path)
                if isinstance(node, ast.FunctionDef):
                    self.assertFalse(node.decorator_list, (path, node.name))
                if isinstance(node, ast.Constant):
                    self.assertNotIsInstance(node.value, (float, complex), path)
                if isinstance(node, ast.Name) and isinstance(node.ctx, ast.Load):
                    self.assertIn(node.id, names | BUILTINS, path)
            self.assertFalse(names & BUILTINS, path)
            self.assertFalse([name for name in names if name.startswith("_") and name != "__init__"], path)


if __name__ == "__main__":
    unittest.main()
