"""Checks the files of the package against those rules of the language that can be read off the text easily."""

import ast
import builtins
import pathlib
import re
import unittest

FOLDER = pathlib.Path(__file__).resolve().parent.parent / "deadbeat"
FILES = sorted(path for path in FOLDER.rglob("*") if path.is_file() and path.suffix != ".pyc")
LIBRARY = {"heapq", "math", "itertools", "collections"}
BUILTINS = set(
    "len range enumerate zip min max sum abs sorted reversed int str bool list tuple dict set frozenset isinstance "
    "ord repr any all divmod pow getattr hasattr setattr iter next map super property staticmethod classmethod "
    "Exception ValueError TypeError KeyError IndexError LookupError ZeroDivisionError ArithmeticError OverflowError "
    "RuntimeError NotImplementedError AttributeError StopIteration NotImplemented object float bytes".split()
)
BARRED = set(
    "type typing typing_extensions enum Enum IntEnum StrEnum Flag IntFlag Generic Protocol ABC ABCMeta namedtuple "
    "NamedTuple TypedDict TYPE_CHECKING abstractmethod".split()
)
NOT_NAMES = set(
    "register mro elements open input law version_info with_traceback add_note attrgetter breakpoint builtins "
    "compile copyright credits delattr dir eval exec exit gc globals help id importlib license locals methodcaller "
    "os quit vars".split()
)
METHODS = set(
    "append clear copy count endswith extend find get index insert isalnum isalpha isdigit islower isspace isupper "
    "items join keys ljust lower lstrip partition pop remove replace reverse rfind rjust rpartition rsplit rstrip "
    "setdefault split splitlines startswith strip update upper values zfill bit_length title capitalize swapcase "
    "casefold center expandtabs removeprefix removesuffix rindex isascii isdecimal isnumeric istitle isidentifier "
    "isprintable sort add discard format translate maketrans encode decode hex from_bytes".split()
)
STATEMENTS = (
    ast.Assign, ast.AugAssign, ast.AnnAssign, ast.If, ast.While, ast.For, ast.Return, ast.Break, ast.Continue, ast.Pass,
    ast.Raise, ast.Assert, ast.Delete, ast.Nonlocal, ast.Match, ast.With, ast.Try, ast.Expr, ast.FunctionDef,
)
AT_TOP = (ast.Import, ast.ImportFrom, ast.FunctionDef, ast.ClassDef, ast.Assign, ast.AnnAssign, ast.Expr)


def bound_names(tree):
    """All names that a file gives to parameters, variables, functions and classes."""
    for node in ast.walk(tree):
        if isinstance(node, ast.Name) and isinstance(node.ctx, ast.Store):
            yield node.id
        elif isinstance(node, ast.arg):
            yield node.arg
        elif isinstance(node, (ast.FunctionDef, ast.ClassDef)):
            yield node.name


def own_methods():
    """The names of all functions of the package that stand in classes."""
    found = set()
    for path in FILES:
        for node in ast.walk(ast.parse(path.read_text())):
            if isinstance(node, ast.ClassDef):
                found |= {row.name for row in node.body if isinstance(row, ast.FunctionDef)}
    return found


class LanguageTest(unittest.TestCase):
    def each(self):
        for path in FILES:
            text = path.read_text()
            yield path, text, ast.parse(text)

    def test_files(self):
        for path in FILES:
            self.assertRegex(path.relative_to(FOLDER).as_posix(), r"^([a-z0-9_]+/)*[a-z0-9_]+\.py$")
        self.assertIn(FOLDER / "__init__.py", FILES)

    def test_text(self):
        for _, text, _ in self.each():
            lines = text.split("\n")
            self.assertLessEqual(len(lines), 400)
            self.assertLessEqual(max(len(line) for line in lines), 120)
            self.assertIsNone(re.search(r"[^ -~\n]", text))

    def test_length_of_functions(self):
        for _, _, tree in self.each():
            for node in ast.walk(tree):
                if isinstance(node, ast.FunctionDef):
                    self.assertLessEqual(node.end_lineno - node.lineno + 1, 40, node.name)

    def test_imports(self):
        for path, _, tree in self.each():
            for node in ast.walk(tree):
                if isinstance(node, ast.Import):
                    self.assertEqual((path.name, node.names[0].name), ("__main__.py", "sys"))
                if isinstance(node, ast.ImportFrom):
                    self.assertEqual(node.level, 0)
                    if node.module not in LIBRARY:
                        defining = FOLDER.parent.joinpath(*node.module.split(".")).with_suffix(".py")
                        names = set(bound_names(ast.parse(defining.read_text())))
                        self.assertLessEqual({name.name for name in node.names}, names)

    def test_module_level(self):
        for path, _, tree in self.each():
            if path.name != "__main__.py":
                for row in tree.body:
                    self.assertIsInstance(row, AT_TOP)
                    if isinstance(row, ast.Expr):
                        self.assertIsInstance(row.value, ast.Constant)

    def test_statements(self):
        for _, _, tree in self.each():
            for node in ast.walk(tree):
                if isinstance(node, ast.FunctionDef):
                    for row in ast.walk(node):
                        if isinstance(row, ast.stmt):
                            self.assertIsInstance(row, STATEMENTS)

    def test_names(self):
        for _, _, tree in self.each():
            for name in bound_names(tree):
                if not (name.startswith("__") and name.endswith("__")):
                    self.assertRegex(name, r"^(_|_?[A-Za-z][A-Za-z0-9_]*)$")
                    self.assertFalse(name != "_" and hasattr(builtins, name), name)
                    self.assertNotIn(name, NOT_NAMES)

    def test_barred_names(self):
        beginnings = r"^(_wall|_pe_|_dcw_|_enum_|_cm_|_twin_re_|_lay_|_law_|_stub_|_sre|_WallAttr)"
        whole = r"^(_cold|_tuplegetter|_outside|_record|_written_out|_member_names)[0-9_]*$"
        for _, _, tree in self.each():
            for name in bound_names(tree):
                self.assertNotRegex(name, beginnings)
                self.assertNotRegex(name, whole)

    def test_names_in_classes(self):
        for _, _, tree in self.each():
            for node in ast.walk(tree):
                if isinstance(node, ast.ClassDef):
                    self.assertNotIn("args", set(bound_names(node)))

    def test_patterns(self):
        """Alternatives in a pattern have no names, and a captured name is not given another meaning."""
        for _, _, tree in self.each():
            for node in ast.walk(tree):
                if isinstance(node, ast.MatchOr):
                    for row in ast.walk(node):
                        self.assertNotIsInstance(row, (ast.MatchAs, ast.MatchStar))
                if isinstance(node, ast.FunctionDef):
                    captured = {row.name for row in ast.walk(node) if isinstance(row, ast.MatchAs)}
                    self.assertFalse(captured & set(bound_names(node)))

    def test_builtins(self):
        for path, _, tree in self.each():
            own = set(bound_names(tree))
            for node in ast.walk(tree):
                if isinstance(node, ast.Name) and hasattr(builtins, node.id) and node.id not in own:
                    if not (path.name == "__main__.py" and node.id in ("print", "__name__")):
                        self.assertIn(node.id, BUILTINS)

    def test_methods(self):
        own = own_methods()
        for path, _, tree in self.each():
            if path.name != "__main__.py":
                for node in ast.walk(tree):
                    if isinstance(node, ast.Call) and isinstance(node.func, ast.Attribute):
                        self.assertIn(node.func.attr, METHODS | own | {"__init__"})

    def test_values(self):
        for _, _, tree in self.each():
            docstrings = {
                id(node.body[0].value) for node in ast.walk(tree)
                if isinstance(node, (ast.Module, ast.ClassDef, ast.FunctionDef)) and node.body
                and isinstance(node.body[0], ast.Expr)
            }
            for node in ast.walk(tree):
                self.assertNotIsInstance(node, ast.Div)
                if isinstance(node, ast.Constant):
                    self.assertNotIsInstance(node.value, (float, complex))
                    if isinstance(node.value, str):
                        self.assertNotIn("%", node.value)
                        if id(node) not in docstrings:
                            self.assertFalse(BARRED & set(re.findall(r"\w+", node.value)), node.value)

    def test_names_at_module_level_are_bound_once(self):
        for _, _, tree in self.each():
            names = []
            for row in tree.body:
                if isinstance(row, (ast.FunctionDef, ast.ClassDef)):
                    names.append(row.name)
                elif isinstance(row, ast.ImportFrom):
                    names += [name.name for name in row.names]
                elif isinstance(row, ast.Assign):
                    self.assertEqual(len(row.targets), 1)
                    names.append(row.targets[0].id)
            self.assertEqual(len(names), len(set(names)))

    def test_imported_names_are_not_given_another_meaning(self):
        for _, _, tree in self.each():
            imported = {name.name for row in tree.body if isinstance(row, ast.ImportFrom) for name in row.names}
            self.assertFalse(imported & set(bound_names(tree)))

    def test_attributes_are_assigned_through_names(self):
        for _, _, tree in self.each():
            for node in ast.walk(tree):
                if isinstance(node, ast.Attribute) and isinstance(node.ctx, ast.Store):
                    self.assertIsInstance(node.value, ast.Name)

    def test_caught_errors_have_names_of_their_own(self):
        for _, _, tree in self.each():
            for node in ast.walk(tree):
                if isinstance(node, ast.FunctionDef):
                    names = [row.name for row in ast.walk(node) if isinstance(row, ast.ExceptHandler) and row.name]
                    self.assertEqual(len(names), len(set(names)))
                    self.assertFalse(set(names) & set(bound_names(node)))

    def test_names_in_a_class_are_methods_or_attributes(self):
        for _, _, tree in self.each():
            for node in ast.walk(tree):
                if isinstance(node, ast.ClassDef):
                    methods = [row.name for row in node.body if isinstance(row, ast.FunctionDef)]
                    fields = {row.attr for row in ast.walk(node) if isinstance(row, ast.Attribute) and isinstance(row.ctx, ast.Store)}
                    self.assertEqual(len(methods), len(set(methods)))
                    self.assertFalse(fields & set(methods))
