"""The package keeps to its small part of Python, as far as a look at its files can tell."""

import ast
import builtins
import pathlib
import re
import unittest

PACKAGE = pathlib.Path(__file__).resolve().parent.parent / "errands"
OWN_NAMES = set("""len range enumerate zip min max sum abs sorted reversed int str bool bytes list tuple dict set
    frozenset isinstance ord repr any all divmod Exception ValueError TypeError KeyError IndexError LookupError
    ZeroDivisionError ArithmeticError OverflowError RuntimeError NotImplementedError AttributeError
    StopIteration""".split())
UNSAID = set("""type typing typing_extensions enum Enum IntEnum StrEnum Flag IntFlag Generic Protocol ABC ABCMeta
    namedtuple NamedTuple TypedDict TYPE_CHECKING abstractmethod""".split())
UNUSED_NODES = (ast.Import, ast.With, ast.Match, ast.Global, ast.Nonlocal, ast.Yield, ast.YieldFrom, ast.Await,
                ast.AsyncFunctionDef, ast.AsyncFor, ast.AsyncWith, ast.NamedExpr, ast.GeneratorExp, ast.Div,
                ast.MatMult)


METHODS = set("""append clear copy count endswith extend find get index insert isalnum isalpha isdigit islower isspace
    isupper items join keys ljust lower lstrip partition pop remove replace reverse rfind rjust rpartition rsplit rstrip
    setdefault split splitlines startswith strip update upper values zfill bit_length add discard sort""".split())


def sources():
    return [(path, path.read_text(encoding="utf-8")) for path in sorted(PACKAGE.glob("*.py"))]


def bound_names(tree):
    """The names that a file defines at its top, without those that it draws in."""
    names = set()
    for node in tree.body:
        if isinstance(node, (ast.FunctionDef, ast.ClassDef)):
            names.add(node.name)
        if isinstance(node, ast.Assign):
            names.update(target.id for target in node.targets)
    return names


def own_methods():
    """The names of all methods of the package's classes."""
    return {method.name for _, text in sources() for node in ast.parse(text).body if isinstance(node, ast.ClassDef)
            for method in node.body if isinstance(method, ast.FunctionDef)}


def own_values():
    """The names of all values that the package gives to objects."""
    return {node.attr for _, text in sources() for node in ast.walk(ast.parse(text))
            if isinstance(node, ast.Attribute) and isinstance(node.ctx, ast.Store)}


def names_of_pythons_values():
    return {name for kind in (str, int, list, dict, set, bytes) for name in dir(kind)}


def drawn_names(tree):
    """The classes and imports of a file."""
    names = {alias.asname or alias.name for node in tree.body if isinstance(node, ast.ImportFrom)
             for alias in node.names}
    return names | {node.name for node in tree.body if isinstance(node, ast.ClassDef)}


class Language(unittest.TestCase):
    def test_files(self):
        names = [path.name for path in PACKAGE.iterdir() if path.name != "__pycache__"]
        self.assertIn("__init__.py", names)
        for name in names:
            self.assertRegex(name, r"^(__init__|[a-z][a-z0-9_]*)\.py$")

    def test_signs_and_sizes(self):
        for path, text in sources():
            with self.subTest(file=path.name):
                self.assertRegex(text, r"\A[ -~\n]*\Z")
                lines = text.splitlines()
                self.assertLessEqual(len(lines), 400)
                self.assertLessEqual(max(map(len, lines)), 120)
                for node in ast.walk(ast.parse(text)):
                    if isinstance(node, ast.FunctionDef):
                        self.assertLessEqual(node.end_lineno - node.lineno + 1, 40, node.name)

    def test_words_that_stand_nowhere(self):
        for path, text in sources():
            with self.subTest(file=path.name):
                self.assertEqual(UNSAID & set(re.findall(r"\w+", text)), set())
                self.assertNotRegex(text, "dataclass|overload|contextmanager")

    def test_imports(self):
        bound = {path.name: bound_names(ast.parse(text)) for path, text in sources()}
        for path, text in sources():
            tree = ast.parse(text)
            for node in ast.walk(tree):
                if isinstance(node, ast.ImportFrom):
                    with self.subTest(file=path.name, drawn=node.module):
                        self.assertIn(node, tree.body)
                        self.assertEqual(node.level, 0)
                        self.assertRegex(node.module, r"^errands\.[a-z]+$")
                        defined = bound[node.module.partition(".")[2] + ".py"]
                        self.assertLessEqual({alias.name for alias in node.names}, defined)

    def test_forms_that_are_not_used(self):
        for path, text in sources():
            for node in ast.walk(ast.parse(text)):
                with self.subTest(file=path.name, row=getattr(node, "lineno", None)):
                    self.assertNotIsInstance(node, UNUSED_NODES)
                    self.assertFalse(getattr(node, "decorator_list", None))
                    if isinstance(node, (ast.For, ast.While)):
                        self.assertEqual(node.orelse, [])
                    if isinstance(node, ast.Constant):
                        self.assertNotIsInstance(node.value, (float, complex))
                    if isinstance(node, ast.arguments):
                        self.assertIsNone(node.vararg or node.kwarg)

    def test_names(self):
        for path, text in sources():
            for node in ast.walk(ast.parse(text)):
                if isinstance(node, ast.Name):
                    with self.subTest(file=path.name, row=node.lineno):
                        self.assertFalse(node.id.startswith("_"))
                        if node.id in dir(builtins):
                            self.assertIn(node.id, OWN_NAMES)
                            self.assertIsInstance(node.ctx, ast.Load)

    def test_no_name_has_two_meanings(self):
        for path, text in sources():
            tree = ast.parse(text)
            taken = drawn_names(tree) | set(dir(builtins))
            for node in ast.walk(tree):
                with self.subTest(file=path.name, row=getattr(node, "lineno", None)):
                    if isinstance(node, ast.arg):
                        self.assertNotIn(node.arg, taken)
                    if isinstance(node, ast.Name) and isinstance(node.ctx, ast.Store):
                        self.assertNotIn(node.id, taken)
            defined = [node.name for node in tree.body if isinstance(node, (ast.FunctionDef, ast.ClassDef))]
            self.assertEqual(len(defined), len(set(defined)), path.name)
            self.assertFalse(set(defined) & set(dir(builtins)), path.name)

    def test_methods(self):
        for path, text in sources():
            for node in ast.walk(ast.parse(text)):
                if isinstance(node, ast.Call) and isinstance(node.func, ast.Attribute):
                    with self.subTest(file=path.name, row=node.lineno):
                        self.assertIn(node.func.attr, METHODS | own_methods())
                        self.assertEqual(node.keywords, [])

    def test_own_methods_and_values(self):
        methods = own_methods() - {"__init__"}
        self.assertFalse([name for name in methods if name.startswith("_")])
        self.assertEqual(methods & own_values(), set())
        self.assertEqual((methods | own_values()) & names_of_pythons_values(), set())

    def test_values_that_are_asked_are_given_somewhere(self):
        for path, text in sources():
            tree = ast.parse(text)
            called = [node.func for node in ast.walk(tree) if isinstance(node, ast.Call)]
            for node in ast.walk(tree):
                if isinstance(node, ast.Attribute) and isinstance(node.ctx, ast.Load) and node not in called:
                    with self.subTest(file=path.name, row=node.lineno):
                        self.assertIn(node.attr, own_values())

    def test_no_files_draw_from_one_another(self):
        draws = {path.stem: {node.module.partition(".")[2] for node in ast.parse(text).body
                             if isinstance(node, ast.ImportFrom)} for path, text in sources()}
        left = dict(draws)
        while left:
            free = [name for name in left if not left[name] & set(left)]
            self.assertNotEqual(free, [], sorted(left))
            for name in free:
                del left[name]

    def test_names_are_given_once_at_the_top(self):
        for path, text in sources():
            given = []
            for node in ast.parse(text).body:
                given += [alias.name for alias in getattr(node, "names", [])]
                given += [target.id for target in getattr(node, "targets", [])]
                given += [node.name] if isinstance(node, (ast.FunctionDef, ast.ClassDef)) else []
            self.assertEqual(len(given), len(set(given)), path.name)

    def test_raised_errors_are_made_on_the_spot(self):
        for path, text in sources():
            for node in ast.walk(ast.parse(text)):
                if isinstance(node, ast.Raise):
                    with self.subTest(file=path.name, row=node.lineno):
                        self.assertIsInstance(node.exc, ast.Call)
                        self.assertIn(node.exc.func.id, bound_names(ast.parse((PACKAGE / "errors.py").read_text())))

    def test_is_stands_beside_none_true_and_false_alone(self):
        for path, text in sources():
            for node in ast.walk(ast.parse(text)):
                if isinstance(node, ast.Compare) and isinstance(node.ops[0], (ast.Is, ast.IsNot)):
                    with self.subTest(file=path.name, row=node.lineno):
                        self.assertIsInstance(node.comparators[0], ast.Constant)
                        self.assertIn(node.comparators[0].value, (None, True, False))

    def test_sets_are_not_walked(self):
        for path, text in sources():
            for node in ast.walk(ast.parse(text)):
                if isinstance(node, (ast.For, ast.comprehension)):
                    with self.subTest(file=path.name):
                        self.assertNotIsInstance(node.iter, (ast.Set, ast.SetComp))
                        self.assertNotRegex(ast.unparse(node.iter), r"^(set|frozenset)\(")


if __name__ == "__main__":
    unittest.main()
