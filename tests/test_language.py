"""The package keeps to the small part of Python that it is written in, as far as can be seen here."""

import ast
import builtins
import pathlib
import re
import unittest

PACKAGE = pathlib.Path(__file__).resolve().parent.parent / "buildtext"

OWN_NAMES = set("""
    len range enumerate zip min max sum abs sorted reversed int str bool list tuple dict set frozenset isinstance ord
    repr any all divmod Exception ValueError TypeError KeyError IndexError LookupError ZeroDivisionError ArithmeticError
    OverflowError RuntimeError NotImplementedError AttributeError StopIteration
""".split())
METHODS = set("""
    append clear copy count endswith extend find get index insert isalnum isalpha isdigit islower isspace isupper items
    join keys ljust lower lstrip partition pop remove replace reverse rfind rjust rpartition rsplit rstrip setdefault
    split splitlines startswith strip update upper values zfill bit_length
""".split())
NODES = set("""
    Module Expr Constant ImportFrom alias FunctionDef arguments arg ClassDef Assign AugAssign If While For Return Break
    Continue Pass Raise Try ExceptHandler Call keyword Name Load Store Attribute Subscript Slice BinOp Add Sub Mult
    FloorDiv Mod Pow BitAnd BitOr BitXor LShift RShift UnaryOp Not USub Compare Eq NotEq Lt LtE Gt GtE In NotIn Is IsNot
    BoolOp And Or IfExp List Tuple Dict ListComp comprehension Lambda JoinedStr FormattedValue
""".split())
WORDS_NOWHERE = set("""
    type typing typing_extensions enum Enum IntEnum StrEnum Flag IntFlag Generic Protocol ABC ABCMeta namedtuple NamedTuple
    TypedDict TYPE_CHECKING abstractmethod
""".split())
NAMES_NOWHERE = {"register", "mro", "elements", "open", "input", "version_info", "with_traceback", "add_note", "chr"}


def sources():
    return sorted(path for path in PACKAGE.rglob("*") if "__pycache__" not in path.parts and path.is_file())


def bound_names(tree):
    names = set()
    for item in ast.walk(tree):
        if isinstance(item, (ast.FunctionDef, ast.ClassDef)):
            names.add(item.name)
        elif isinstance(item, ast.arg):
            names.add(item.arg)
        elif isinstance(item, ast.Name) and isinstance(item.ctx, ast.Store):
            names.add(item.id)
        elif isinstance(item, ast.ExceptHandler) and item.name:
            names.add(item.name)
        elif isinstance(item, ast.alias):
            names.add(item.name)
    return names


class Language(unittest.TestCase):
    def setUp(self):
        self.files = [(path, path.read_text("ascii")) for path in sources()]
        self.trees = [(path, ast.parse(text)) for path, text in self.files]

    def each(self, kinds):
        """The things of these kinds, each behind where it stands."""
        return [
            ("%s:%d" % (path.name, getattr(item, "lineno", 0)), item)
            for path, tree in self.trees for item in ast.walk(tree) if isinstance(item, kinds)
        ]

    def test_files(self):
        self.assertGreater(len(self.files), 1)
        for path, text in self.files:
            with self.subTest(path.name):
                self.assertRegex(path.name, r"^[a-z0-9_]+\.py$")
                self.assertTrue((path.parent / "__init__.py").is_file())
                self.assertRegex(text, r"^[ -~\n]*$")
                lines = text.splitlines()
                self.assertLessEqual(len(lines), 400)
                self.assertLessEqual(max(len(line) for line in lines), 120)
                words = set(re.findall(r"\w+", text))
                self.assertEqual(words & WORDS_NOWHERE, set())
                self.assertNotRegex(text, "dataclass|overload|contextmanager")

    def test_only_these_forms(self):
        for place, item in self.each(ast.AST):
            self.assertIn(type(item).__name__, NODES, place)

    def test_the_top_of_each_file(self):
        for path, tree in self.trees:
            for number, item in enumerate(tree.body):
                with self.subTest(path=path.name, line=item.lineno):
                    self.assertIsInstance(item, (ast.Expr, ast.ImportFrom, ast.FunctionDef, ast.ClassDef, ast.Assign))
                    if isinstance(item, ast.Expr):
                        self.assertEqual(number, 0)
                    if isinstance(item, ast.Assign):
                        ast.literal_eval(item.value)
            names = [name.id for item in tree.body if isinstance(item, ast.Assign) for name in item.targets]
            self.assertEqual(len(names), len(set(names)))

    def test_imports(self):
        defined = {path.stem: defined_at_top(tree) for path, tree in self.trees}
        drawn = {path.stem: set() for path, tree in self.trees}
        for path, tree in self.trees:
            for item in ast.walk(tree):
                if isinstance(item, ast.ImportFrom):
                    with self.subTest(path=path.name, line=item.lineno):
                        self.assertIn(item, tree.body)
                        self.assertRegex(item.module, r"^buildtext\.[a-z_]+$")
                        source = item.module.split(".")[1]
                        drawn[path.stem].add(source)
                        for alias in item.names:
                            self.assertIsNone(alias.asname)
                            self.assertIn(alias.name, defined[source])
                            self.assertNotIn(alias.name, defined[path.stem])
        while drawn:
            first = [name for name, sources in drawn.items() if not sources & set(drawn)]
            self.assertTrue(first, "files draw from one another: %s" % sorted(drawn))
            for name in first:
                drawn.pop(name)

    def test_functions(self):
        for place, item in self.each(ast.FunctionDef):
            self.assertEqual(item.decorator_list, [], place)
            self.assertLessEqual(item.end_lineno - item.lineno + 1, 40, place)
            given = item.args
            self.assertFalse(given.vararg or given.kwarg or given.kwonlyargs or given.posonlyargs, place)
            self.assertIsNone(item.returns, place)

    def test_classes(self):
        for place, item in self.each(ast.ClassDef):
            self.assertEqual(item.decorator_list, [], place)
            self.assertLessEqual(len(item.bases), 1, place)
            for entry in item.body:
                self.assertIsInstance(entry, ast.FunctionDef, place)

    def test_bound_names(self):
        for path, tree in self.trees:
            with self.subTest(path.name):
                bound = bound_names(tree)
                self.assertEqual(bound & set(dir(builtins)), set())
                self.assertEqual({name for name in bound if name.startswith("_")} - {"__init__"}, set())
                used = {item.id for item in ast.walk(tree) if isinstance(item, ast.Name)}
                self.assertEqual(used - bound - OWN_NAMES, set())

    def test_names_that_are_not_used(self):
        for place, item in self.each((ast.Name, ast.Attribute)):
            name = item.id if isinstance(item, ast.Name) else item.attr
            self.assertNotIn(name, NAMES_NOWHERE, place)

    def test_methods_and_values(self):
        methods = {entry.name for place, item in self.each(ast.ClassDef) for entry in item.body}
        values = {item.attr for place, item in self.each(ast.Attribute) if isinstance(item.ctx, ast.Store)}
        taken = {name for value in ("", 0, [], {}, set(), b"") for name in dir(value)}
        self.assertEqual(methods & values, set())
        self.assertEqual(values & taken, set())
        for place, item in self.each(ast.Call):
            if isinstance(item.func, ast.Attribute):
                self.assertIn(item.func.attr, METHODS | methods, place)

    def test_assignments_have_one_plain_target(self):
        for place, item in self.each(ast.Assign):
            self.assertEqual(len(item.targets), 1, place)
            self.assertNotIsInstance(item.targets[0], (ast.Tuple, ast.List), place)

    def test_plain_values(self):
        for place, item in self.each(ast.Constant):
            self.assertIsInstance(item.value, (str, int, bool, type(None)), place)
            if isinstance(item.value, str):
                self.assertNotIn("%", item.value, place)

    def test_loops_have_no_else(self):
        for place, item in self.each((ast.For, ast.While)):
            self.assertEqual(item.orelse, [], place)

    def test_is_stands_beside_none_true_and_false(self):
        for place, item in self.each(ast.Compare):
            if any(isinstance(sign, (ast.Is, ast.IsNot)) for sign in item.ops):
                self.assertIsInstance(item.comparators[0], ast.Constant, place)
                self.assertIn(item.comparators[0].value, (None, True, False), place)


def defined_at_top(tree):
    names = set()
    for entry in tree.body:
        if isinstance(entry, (ast.FunctionDef, ast.ClassDef)):
            names.add(entry.name)
        elif isinstance(entry, ast.Assign):
            names.update(name.id for name in entry.targets)
    return names


if __name__ == "__main__":
    unittest.main()
