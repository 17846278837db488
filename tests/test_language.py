"""Some of the rules that the package's files must keep to, L1 to L28, where a short look can tell."""

import ast
import pathlib
import re
import unittest

PACKAGE = pathlib.Path(__file__).resolve().parent.parent / "leavebook"
BUILTINS = set("""len range enumerate zip min max sum abs sorted reversed int str bool bytes list tuple dict set frozenset
isinstance ord repr any all divmod Exception ValueError TypeError KeyError IndexError LookupError ZeroDivisionError
ArithmeticError OverflowError RuntimeError NotImplementedError AttributeError StopIteration super property staticmethod
classmethod""".split())
BARRED = set("""type typing typing_extensions enum Enum IntEnum StrEnum Flag IntFlag Generic Protocol ABC ABCMeta namedtuple
NamedTuple TypedDict TYPE_CHECKING abstractmethod""".split())
# L17, and builtins that L15 keeps from having another meaning.
UNUSED = set("""register mro elements open input version_info with_traceback add_note attrgetter breakpoint builtins compile copyright
credits delattr dir eval exec exit gc getattr globals hasattr help id importlib license locals methodcaller os quit setattr type
vars sys hash next map round filter iter pow print slice bin hex oct ord chr object float complex bytearray memoryview""".split())
AT_ONCE = set("zip enumerate reversed range items keys values".split())
TAKERS = set("list tuple dict sorted sum any all enumerate zip min max".split())
GENERATED = set("list tuple dict sorted sum min max any all join".split())
# L25.
METHODS = set("""append clear copy count endswith extend find get index insert isalnum isalpha isdigit islower isspace isupper items join
keys ljust lower lstrip partition pop remove replace reverse rfind rjust rpartition rsplit rstrip setdefault split splitlines startswith
strip update upper values zfill""".split())
NODES = (ast.Global, ast.AsyncFunctionDef, ast.AsyncFor, ast.AsyncWith, ast.Await, ast.NamedExpr, ast.Import, ast.Div)


def files():
    return sorted(PACKAGE.glob("*.py"))


def trees():
    return [(path, ast.parse(path.read_text())) for path in files()]


def called(node):
    """The name of what is called, or None."""
    if not isinstance(node, ast.Call):
        return None
    return node.func.attr if isinstance(node.func, ast.Attribute) else getattr(node.func, "id", None)


def bound_names(tree):
    """All names that a file gives a meaning."""
    names = set()
    for node in ast.walk(tree):
        if isinstance(node, (ast.FunctionDef, ast.ClassDef)):
            names.add(node.name)
        elif isinstance(node, ast.arg):
            names.add(node.arg)
        elif isinstance(node, ast.alias):
            names.add(node.asname or node.name)
        elif isinstance(node, ast.Name) and isinstance(node.ctx, ast.Store):
            names.add(node.id)
        elif isinstance(node, ast.ExceptHandler) and node.name:
            names.add(node.name)
    return names


class Language(unittest.TestCase):
    def test_only_plain_files(self):
        for path in PACKAGE.iterdir():
            if path.name != "__pycache__":
                self.assertRegex(path.name, r"\A(__init__|[a-z][a-z0-9_]*)\.py\Z")

    def test_sizes_and_signs(self):
        for path in files():
            text = path.read_text()
            self.assertTrue(all(sign == "\n" or " " <= sign <= "~" for sign in text), path)
            self.assertLessEqual(len(text.splitlines()), 400, path)
            self.assertTrue(all(len(line) <= 120 for line in text.splitlines()), path)
            self.assertFalse(BARRED & set(re.findall(r"\w+", text)), path)
            for node in ast.walk(ast.parse(text)):
                if isinstance(node, ast.FunctionDef):
                    self.assertLessEqual(node.end_lineno - node.lineno + 1, 40, (path, node.name))

    def test_imports(self):
        for path, tree in trees():
            for node in ast.walk(tree):
                if isinstance(node, ast.ImportFrom):
                    self.assertEqual((node.level, node.module.split(".")[0]), (0, "leavebook"), path)
                    source = ast.parse((PACKAGE / (node.module.split(".")[1] + ".py")).read_text())
                    defined = {made.name for made in source.body if isinstance(made, (ast.FunctionDef, ast.ClassDef))}
                    defined |= {made.targets[0].id for made in source.body if isinstance(made, ast.Assign)}
                    self.assertLessEqual({alias.name for alias in node.names}, defined, path)

    def test_no_circle_of_imports(self):
        above = {path.stem: {node.module.split(".")[1] for node in tree.body if isinstance(node, ast.ImportFrom)} for path, tree in trees()}
        while above:
            free = [name for name in above if not above[name] & set(above)]
            self.assertTrue(free, above)
            for name in free:
                del above[name]

    def test_no_second_meaning_of_a_files_names(self):
        for path, tree in trees():
            imported = {alias.name for node in tree.body if isinstance(node, ast.ImportFrom) for alias in node.names}
            classes = {node.name for node in tree.body if isinstance(node, ast.ClassDef)}
            top = [node.name for node in tree.body if isinstance(node, (ast.FunctionDef, ast.ClassDef))]
            top += [node.targets[0].id for node in tree.body if isinstance(node, ast.Assign)]
            self.assertEqual(len(top), len(set(top) - imported), path)
            local = {node.arg for node in ast.walk(tree) if isinstance(node, ast.arg)}
            local |= {node.id for node in ast.walk(tree) if isinstance(node, ast.Name) and isinstance(node.ctx, ast.Store)}
            self.assertFalse(local & (imported | classes), path)

    def test_stars(self):
        for path, tree in trees():
            for node in ast.walk(tree):
                if isinstance(node, (ast.Set, ast.Subscript)):
                    inner = node.elts if isinstance(node, ast.Set) else [node.slice]
                    self.assertFalse([item for item in inner if isinstance(item, ast.Starred)], path)
                if isinstance(node, ast.Call):
                    starred = [item.value for item in node.args if isinstance(item, ast.Starred)]
                    self.assertTrue(all(isinstance(item, (ast.Name, ast.Attribute)) for item in starred), path)

    def test_iterated_at_once(self):
        """L23: what zip and the like tell isn't stored; generator expressions stand where L7 allows them."""
        for path, tree in trees():
            above = {inner: node for node in ast.walk(tree) for inner in ast.iter_child_nodes(node)}
            for node in ast.walk(tree):
                if isinstance(node, ast.Call) and called(node) in AT_ONCE:
                    over = above[node]
                    looped = isinstance(over, (ast.For, ast.comprehension)) and over.iter is node
                    self.assertTrue(looped or isinstance(over, ast.Call) and called(over) in TAKERS, (path, node.lineno))
                if isinstance(node, ast.GeneratorExp):
                    self.assertIn(called(above[node]), GENERATED, (path, node.lineno))

    def test_classes(self):
        """L18, L26: no name is a method and an attribute; no attribute has a name of what builtin values have."""
        methods, attributes, read = set(), set(), set()
        for path, tree in trees():
            for node in ast.walk(tree):
                if isinstance(node, ast.ClassDef):
                    methods |= {inner.name for inner in node.body if isinstance(inner, ast.FunctionDef)}
                if isinstance(node, ast.Attribute):
                    (attributes if isinstance(node.ctx, ast.Store) else read).add(node.attr)
        self.assertFalse(methods & attributes)
        self.assertFalse(attributes & set(dir(str) + dir(list) + dir(dict) + dir(set) + dir(bytes) + dir(int)))
        self.assertLessEqual(read, methods | attributes | METHODS)

    def test_statements_and_names(self):
        for path, tree in trees():
            names = bound_names(tree)
            for node in ast.walk(tree):
                self.assertNotIsInstance(node, NODES, path)
                if isinstance(node, ast.FunctionDef):
                    self.assertFalse(node.decorator_list, (path, node.name))
                if isinstance(node, ast.Constant):
                    self.assertNotIsInstance(node.value, (float, complex), path)
                if isinstance(node, ast.Name) and isinstance(node.ctx, ast.Load):
                    self.assertIn(node.id, names | BUILTINS, path)
            self.assertFalse(names & (BUILTINS | UNUSED), path)
            self.assertFalse([name for name in names if name.startswith("_") and name != "__init__"], path)


if __name__ == "__main__":
    unittest.main()
