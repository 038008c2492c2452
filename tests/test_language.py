"""The package keeps to its small part of Python, as far as a look at its files can tell."""

import ast
import builtins
import pathlib
import re
import unittest

PACKAGE = pathlib.Path(__file__).resolve().parent.parent / "errands"
OWN_NAMES = set("""len range enumerate zip min max sum abs sorted reversed int str bool bytes list tuple dict set
    frozenset isinstance ord repr any all divmod Exception ValueError TypeError KeyError IndexError LookupError
    ZeroDivisionError ArithmeticError OverflowError RuntimeError NotImplementedError AttributeError
    StopIteration""".split())
UNSAID = set("""type typing typing_extensions enum Enum IntEnum StrEnum Flag IntFlag Generic Protocol ABC ABCMeta
    namedtuple NamedTuple TypedDict TYPE_CHECKING abstractmethod""".split())
UNUSED_NODES = (ast.Import, ast.With, ast.Match, ast.Global, ast.Nonlocal, ast.Yield, ast.YieldFrom, ast.Await,
                ast.AsyncFunctionDef, ast.AsyncFor, ast.AsyncWith, ast.NamedExpr, ast.GeneratorExp, ast.Div,
                ast.MatMult)


def sources():
    return [(path, path.read_text(encoding="utf-8")) for path in sorted(PACKAGE.glob("*.py"))]


def bound_names(tree):
    """The names that a file defines at its top, without those that it draws in."""
    names = set()
    for node in tree.body:
        if isinstance(node, (ast.FunctionDef, ast.ClassDef)):
            names.add(node.name)
        if isinstance(node, ast.Assign):
            names.update(target.id for target in node.targets)
    return names


class Language(unittest.TestCase):
    def test_files(self):
        names = [path.name for path in PACKAGE.iterdir() if path.name != "__pycache__"]
        self.assertIn("__init__.py", names)
        for name in names:
            self.assertRegex(name, r"^(__init__|[a-z][a-z0-9_]*)\.py$")

    def test_signs_and_sizes(self):
        for path, text in sources():
            with self.subTest(file=path.name):
                self.assertRegex(text, r"\A[ -~\n]*\Z")
                lines = text.splitlines()
                self.assertLessEqual(len(lines), 400)
                self.assertLessEqual(max(map(len, lines)), 120)
                for node in ast.walk(ast.parse(text)):
                    if isinstance(node, ast.FunctionDef):
                        self.assertLessEqual(node.end_lineno - node.lineno + 1, 40, node.name)

    def test_words_that_stand_nowhere(self):
        for path, text in sources():
            with self.subTest(file=path.name):
                self.assertEqual(UNSAID & set(re.findall(r"\w+", text)), set())
                self.assertNotRegex(text, "dataclass|overload|contextmanager")

    def test_imports(self):
        bound = {path.name: bound_names(ast.parse(text)) for path, text in sources()}
        for path, text in sources():
            tree = ast.parse(text)
            for node in ast.walk(tree):
                if isinstance(node, ast.ImportFrom):
                    with self.subTest(file=path.name, drawn=node.module):
                        self.assertIn(node, tree.body)
                        self.assertEqual(node.level, 0)
                        self.assertRegex(node.module, r"^errands\.[a-z]+$")
                        defined = bound[node.module.partition(".")[2] + ".py"]
                        self.assertLessEqual({alias.name for alias in node.names}, defined)

    def test_forms_that_are_not_used(self):
        for path, text in sources():
            for node in ast.walk(ast.parse(text)):
                with self.subTest(file=path.name, row=getattr(node, "lineno", None)):
                    self.assertNotIsInstance(node, UNUSED_NODES)
                    self.assertFalse(getattr(node, "decorator_list", None))
                    if isinstance(node, (ast.For, ast.While)):
                        self.assertEqual(node.orelse, [])
                    if isinstance(node, ast.Constant):
                        self.assertNotIsInstance(node.value, (float, complex))
                    if isinstance(node, ast.arguments):
                        self.assertIsNone(node.vararg or node.kwarg)

    def test_names(self):
        for path, text in sources():
            for node in ast.walk(ast.parse(text)):
                if isinstance(node, ast.Name):
                    with self.subTest(file=path.name, row=node.lineno):
                        self.assertFalse(node.id.startswith("_"))
                        if node.id in dir(builtins):
                            self.assertIn(node.id, OWN_NAMES)
                            self.assertIsInstance(node.ctx, ast.Load)


if __name__ == "__main__":
    unittest.main()
