"""The rules of the language subset that a look at the package's code can decide."""

import ast
import builtins
import pathlib
import re
import unittest

PACKAGE = pathlib.Path(__file__).resolve().parent.parent / "weblayers"
ALLOWED_BUILTINS = set(
    "len range enumerate zip min max sum abs sorted reversed int str bool bytes list tuple dict set frozenset "
    "isinstance ord repr any all divmod Exception ValueError TypeError KeyError IndexError LookupError "
    "ZeroDivisionError ArithmeticError OverflowError RuntimeError NotImplementedError AttributeError "
    "StopIteration".split()
)
BUILTIN_METHODS = set(
    "append clear copy count endswith extend find get index insert isalnum isalpha isdigit islower isspace isupper "
    "items join keys ljust lower lstrip partition pop remove replace reverse rfind rjust rpartition rsplit rstrip "
    "setdefault split splitlines startswith strip update upper values zfill bit_length add discard sort "
    "__init__".split()
)
BARRED_WORDS = set(
    "type typing typing_extensions enum Enum IntEnum StrEnum Flag IntFlag Generic Protocol ABC ABCMeta namedtuple "
    "NamedTuple TypedDict TYPE_CHECKING abstractmethod".split()
)
BARRED_NAMES = set(
    "register mro elements open input version_info with_traceback add_note attrgetter breakpoint builtins compile "
    "copyright credits delattr dir eval exec exit gc getattr globals hasattr help id importlib license locals "
    "methodcaller os quit setattr super vars sys".split()
)
BARRED_NODES = (
    ast.Global, ast.AsyncFunctionDef, ast.AsyncFor, ast.AsyncWith, ast.Await, ast.NamedExpr, ast.Div, ast.MatMult,
    ast.Import,
)
OWN_DOUBLE = {"__init__", "__eq__", "__repr__", "__str__", "__len__", "__enter__", "__exit__"}


def sources():
    return sorted(PACKAGE.glob("**/*.py"))


def trees():
    return [(path, ast.parse(path.read_text())) for path in sources()]


def imports_of(tree):
    return [one for one in ast.walk(tree) if isinstance(one, ast.ImportFrom)]


def bound_names(tree):
    """All names that the code gives a meaning, wherever it stands."""
    for one in ast.walk(tree):
        if isinstance(one, ast.Name) and not isinstance(one.ctx, ast.Load):
            yield one.id
        elif isinstance(one, (ast.FunctionDef, ast.ClassDef)):
            yield one.name
        elif isinstance(one, ast.arg):
            yield one.arg
        elif isinstance(one, ast.alias):
            yield one.asname or one.name
        elif isinstance(one, (ast.MatchAs, ast.MatchStar)) and one.name is not None:
            yield one.name


class Language(unittest.TestCase):
    def test_files(self):
        self.assertTrue((PACKAGE / "__init__.py").is_file())
        for path in PACKAGE.rglob("*"):
            if "__pycache__" not in path.parts:
                self.assertRegex(path.name, r"^(__init__|[a-z][a-z0-9_]*)\.py$")

    def test_sizes_and_signs(self):
        for path in sources():
            lines = path.read_text().split("\n")
            self.assertLessEqual(len(lines), 400, path)
            for line in lines:
                self.assertLessEqual(len(line), 120, path)
                self.assertRegex(line, r"^[ -~]*$", path)
        for path, tree in trees():
            for one in ast.walk(tree):
                if isinstance(one, ast.FunctionDef):
                    self.assertLessEqual(one.end_lineno - one.lineno + 1, 40, (path, one.name))

    def test_barred_words(self):
        for path in sources():
            text = path.read_text()
            self.assertEqual(set(re.findall(r"[A-Za-z_]+", text)) & BARRED_WORDS, set(), path)
            self.assertIsNone(re.search("dataclass|overload|contextmanager", text), path)

    def test_barred_pieces(self):
        for path, tree in trees():
            for one in ast.walk(tree):
                self.assertNotIsInstance(one, BARRED_NODES, path)
                if isinstance(one, ast.Constant):
                    self.assertNotIsInstance(one.value, (float, complex), path)
                    self.assertFalse(isinstance(one.value, str) and "%" in one.value, path)
                if isinstance(one, ast.Compare):
                    for sign, other in zip(one.ops, one.comparators):
                        if isinstance(sign, (ast.Is, ast.IsNot)):
                            self.assertIsInstance(other, ast.Constant, path)

    def test_one_lambda_a_line(self):
        for path, tree in trees():
            lines = [one.lineno for one in ast.walk(tree) if isinstance(one, ast.Lambda)]
            self.assertEqual(len(lines), len(set(lines)), path)

    def test_module_level(self):
        plain = (ast.ImportFrom, ast.FunctionDef, ast.ClassDef, ast.Assign)
        for path, tree in trees():
            for one in tree.body[1:]:
                self.assertIsInstance(one, plain, path)
            self.assertIsInstance(tree.body[0], ast.Expr, path)
            top = [name for one in tree.body for name in top_names(one)]
            self.assertEqual(len(top), len(set(top)), path)

    def test_names(self):
        for path, tree in trees():
            outside = {alias.name for one in imports_of(tree) for alias in one.names}
            outside |= {one.name for one in ast.walk(tree) if isinstance(one, ast.ClassDef)}
            for name in bound_names(tree):
                self.assertTrue(name in OWN_DOUBLE or not name.startswith("_"), (path, name))
                self.assertNotIn(name, BARRED_NAMES, path)
                self.assertFalse(name not in OWN_DOUBLE and hasattr(builtins, name), (path, name))
            for one in ast.walk(tree):
                if isinstance(one, ast.Name) and not isinstance(one.ctx, ast.Load):
                    self.assertNotIn(one.id, outside, path)
                if isinstance(one, ast.arg):
                    self.assertNotIn(one.arg, outside, path)
                if isinstance(one, ast.MatchAs):
                    self.assertNotIn(one.name, outside, path)

    def test_builtins(self):
        for path, tree in trees():
            known = set(bound_names(tree)) | ALLOWED_BUILTINS
            for one in ast.walk(tree):
                if isinstance(one, ast.Name):
                    self.assertIn(one.id, known, path)

    def test_imports(self):
        leads = {}
        for path, tree in trees():
            leads[path.stem] = []
            for one in imports_of(tree):
                self.assertEqual(one.level, 0)
                self.assertRegex(one.module, r"^weblayers\.[a-z_]+$")
                goal = PACKAGE / (one.module.split(".")[1] + ".py")
                defined = [name for row in ast.parse(goal.read_text()).body for name in defined_names(row)]
                for alias in one.names:
                    self.assertIn(alias.name, defined, path)
                leads[path.stem].append(goal.stem)
        while leads:
            ends = [stem for stem in leads if not set(leads[stem]) & set(leads)]
            self.assertTrue(ends, f"files import from each other: {sorted(leads)}")
            for stem in ends:
                del leads[stem]

    def test_methods_and_attributes(self):
        methods, attributes, called = set(), set(), set()
        for path, tree in trees():
            for one in ast.walk(tree):
                if isinstance(one, ast.ClassDef):
                    methods |= {row.name for row in one.body if isinstance(row, ast.FunctionDef)}
                if isinstance(one, ast.Attribute) and isinstance(one.ctx, ast.Store):
                    attributes.add(one.attr)
                if isinstance(one, ast.Call) and isinstance(one.func, ast.Attribute):
                    called.add(one.func.attr)
        self.assertEqual(methods & attributes, set())
        self.assertLessEqual(called, methods | BUILTIN_METHODS)
        self.assertLessEqual({name for name in methods if name.startswith("__")}, OWN_DOUBLE)


def defined_names(row):
    if isinstance(row, (ast.FunctionDef, ast.ClassDef)):
        return [row.name]
    if isinstance(row, ast.Assign):
        return [one.id for one in row.targets]
    return []


def top_names(row):
    if isinstance(row, ast.ImportFrom):
        return [alias.asname or alias.name for alias in row.names]
    return defined_names(row)


if __name__ == "__main__":
    unittest.main()
