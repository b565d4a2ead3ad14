"""The rules of LANGUAGE.md that can be seen in the files of the package, as far as a plain look tells."""

import ast
import builtins
import pathlib
import re
import unittest

PACKAGE = pathlib.Path(__file__).resolve().parent.parent / "knotlessrows"

BUILTINS = set("""
    len range enumerate zip min max sum abs sorted reversed int str bool list tuple dict set frozenset isinstance
    ord repr any all divmod iter next super property staticmethod classmethod object
    Exception ValueError TypeError KeyError IndexError LookupError ZeroDivisionError ArithmeticError OverflowError
    RuntimeError NotImplementedError AttributeError StopIteration NotImplemented
""".split())

BARRED_WORDS = set("""
    type typing typing_extensions enum Enum IntEnum StrEnum Flag IntFlag Generic Protocol ABC ABCMeta namedtuple
    NamedTuple TypedDict TYPE_CHECKING abstractmethod
""".split())
BARRED_PARTS = ("dataclass", "overload", "contextmanager")

BARRED_NAMES = set("""
    register mro elements open input version_info with_traceback add_note format format_map
    attrgetter breakpoint builtins compile copyright credits delattr dir eval exec exit gc getattr globals hasattr
    help id importlib license locals methodcaller os quit setattr type vars sys
""".split())

METHODS = set("""
    append clear copy count endswith extend find get index insert isalnum isalpha isdigit islower isspace isupper items
    join keys ljust lower lstrip partition pop remove replace reverse rfind rjust rpartition rsplit rstrip setdefault
    split splitlines startswith strip update upper values zfill bit_length add discard sort
    title capitalize swapcase casefold center expandtabs removeprefix removesuffix rindex isascii isdecimal isnumeric
    istitle isidentifier isprintable translate
""".split())

DOUBLE_UNDERSCORE_METHODS = ("__init__",)

# What may be handed a set that is written on the spot; and what is iterated on the spot, not stored.
TAKE_SETS = ("sorted", "len")
NOT_STORED = ("range", "zip", "enumerate", "reversed")

BARRED_NODES = (
    ast.Global, ast.AsyncFunctionDef, ast.AsyncFor, ast.AsyncWith, ast.Await, ast.Import, ast.Div, ast.MatMult,
)


def files():
    return sorted(path for path in PACKAGE.rglob("*") if "__pycache__" not in path.parts)


def trees():
    return [(path.name, ast.parse(path.read_text())) for path in files()]


def nodes(kind):
    return [(name, node) for name, tree in trees() for node in ast.walk(tree) if isinstance(node, kind)]


def own_methods():
    return {row.name for _, node in nodes(ast.ClassDef) for row in node.body if isinstance(row, ast.FunctionDef)}


def own_attributes():
    return {node.attr for _, node in nodes(ast.Attribute) if isinstance(node.ctx, ast.Store)}


def local_names(function):
    """The parameters, local variables and nested functions of a function."""
    inner = list(ast.walk(function))[1:]
    names = [node.arg for node in inner if isinstance(node, ast.arg)]
    names += [node.id for node in inner if isinstance(node, ast.Name) and isinstance(node.ctx, ast.Store)]
    names += [node.name for node in inner if isinstance(node, (ast.FunctionDef, ast.MatchAs)) and node.name]
    return names


def bound_names(tree):
    for node in ast.walk(tree):
        if isinstance(node, ast.Name) and isinstance(node.ctx, (ast.Store, ast.Del)):
            yield node.id
        elif isinstance(node, ast.arg):
            yield node.arg
        elif isinstance(node, (ast.FunctionDef, ast.ClassDef)):
            yield node.name
        elif isinstance(node, ast.alias):
            yield node.asname or node.name
        elif isinstance(node, ast.ExceptHandler) and node.name:
            yield node.name


class FilesTest(unittest.TestCase):

    def test_the_package_is_there(self):
        self.assertIn(PACKAGE / "__init__.py", files())

    def test_l1_l14_names_of_files(self):
        self.assertLessEqual(len(files()), 100)
        for path in files():
            self.assertTrue(path.is_file(), path)
            self.assertRegex(path.name, r"^(__init__|__main__|[a-z][a-z0-9_]*)\.py$")
            self.assertNotIn(path.stem, [name for name in dir(builtins) if not name.startswith("_")])
            self.assertNotIn(path.stem, BARRED_WORDS | BARRED_NAMES)

    def test_l10_sizes(self):
        for path in files():
            lines = path.read_text().splitlines()
            self.assertLessEqual(len(lines), 400, path.name)
            self.assertLessEqual(max(map(len, lines), default=0), 120, path.name)
        for name, node in nodes(ast.FunctionDef):
            self.assertLessEqual(node.end_lineno - node.lineno + 1, 40, (name, node.name))

    def test_l14_characters(self):
        for path in files():
            self.assertRegex(path.read_bytes(), rb"\A[ -~\n]*\Z", path.name)

    def test_l17_words(self):
        for path in files():
            text = path.read_text()
            self.assertFalse(set(re.findall(r"\w+", text)) & BARRED_WORDS, path.name)
            for part in BARRED_PARTS:
                self.assertNotIn(part, text, path.name)


class CodeTest(unittest.TestCase):

    def test_l2_l16_imports(self):
        for name, node in nodes(ast.ImportFrom):
            self.assertEqual(node.level, 0, name)
            if node.module == "__future__":
                continue
            home = PACKAGE.parent.joinpath(*node.module.split(".")).with_suffix(".py")
            self.assertIn(home, files(), name)
            defined = [getattr(row, "name", None) or row.targets[0].id
                       for row in ast.parse(home.read_text()).body
                       if isinstance(row, (ast.FunctionDef, ast.ClassDef, ast.Assign))]
            for alias in node.names:
                self.assertIn(alias.name, defined, name)

    def test_l16_no_circles(self):
        uses = {name[:-3]: set() for name, _ in trees()}
        for name, node in nodes(ast.ImportFrom):
            uses[name[:-3]].add(node.module.rpartition(".")[2])
        while uses:
            free = [name for name, used in uses.items() if not used & set(uses)]
            self.assertTrue(free, f"a circle among {sorted(uses)}")
            uses = {name: used for name, used in uses.items() if name not in free}

    def test_l3_module_level(self):
        allowed = (ast.ImportFrom, ast.FunctionDef, ast.ClassDef, ast.Assign)
        for name, tree in trees():
            for row in tree.body:
                if isinstance(row, ast.Expr):
                    self.assertIs(row, tree.body[0], name)
                    self.assertIsInstance(row.value, ast.Constant, name)
                else:
                    self.assertIsInstance(row, allowed, name)

    def test_l6_l7_barred_nodes(self):
        for name, node in nodes(BARRED_NODES):
            self.fail(f"{name}: {ast.dump(node)[:80]}")
        for name, node in nodes(ast.Constant):
            self.assertNotIsInstance(node.value, (float, complex), name)
            if isinstance(node.value, str):
                self.assertNotIn("%", node.value, name)

    def test_l8_builtins(self):
        for name, node in nodes(ast.Name):
            if hasattr(builtins, node.id):
                self.assertIn(node.id, BUILTINS, (name, node.lineno))

    def test_l12_l15_l17_bound_names(self):
        for name, tree in trees():
            for bound in bound_names(tree):
                if bound in DOUBLE_UNDERSCORE_METHODS:
                    continue
                self.assertNotIn(bound, BARRED_NAMES, name)
                self.assertFalse(hasattr(builtins, bound), (name, bound))
                self.assertRegex(bound, r"^[A-Za-z]\w*$", name)

    def test_l15_one_binding_at_module_level(self):
        for name, tree in trees():
            bound = [name for row in tree.body if not isinstance(row, (ast.FunctionDef, ast.ClassDef))
                     for name in bound_names(row)]
            bound += [row.name for row in tree.body if isinstance(row, (ast.FunctionDef, ast.ClassDef))]
            self.assertEqual(len(bound), len(set(bound)), name)

    def test_l15_local_names(self):
        for name, tree in trees():
            taken = [row.name for row in tree.body if isinstance(row, ast.ClassDef)]
            taken += [alias.asname or alias.name for row in tree.body if isinstance(row, ast.ImportFrom)
                      for alias in row.names]
            for node in ast.walk(tree):
                if isinstance(node, ast.FunctionDef):
                    self.assertFalse(set(local_names(node)) & set(taken), (name, node.name))

    def test_l18_methods_and_attributes(self):
        self.assertFalse(own_methods() & own_attributes())
        known = own_methods() | own_attributes() | METHODS
        for name, node in nodes(ast.Attribute):
            self.assertIn(node.attr, known, (name, node.lineno))

    def test_l26_names_of_methods_and_attributes(self):
        builtin = set().union(*[dir(kind) for kind in (str, int, list, dict, set, tuple, bytes)])
        self.assertFalse((own_methods() | own_attributes()) & builtin - set(DOUBLE_UNDERSCORE_METHODS))

    def test_l23_nothing_iterated_is_stored(self):
        for name, node in nodes((ast.Assign, ast.Return)):
            if isinstance(node.value, ast.Call) and isinstance(node.value.func, ast.Name):
                self.assertNotIn(node.value.func.id, NOT_STORED, (name, node.lineno))

    def test_l24_sets_stand_where_they_may(self):
        for name, tree in trees():
            held = set()
            for node in ast.walk(tree):
                if isinstance(node, ast.Call) and isinstance(node.func, ast.Name) and node.func.id in TAKE_SETS:
                    held.update(node.args)
                elif isinstance(node, ast.Compare):
                    held.update(node.comparators)
                elif isinstance(node, ast.SetComp):
                    self.assertIn(node, held, (name, node.lineno))

    def test_l25_methods(self):
        known = own_methods() | METHODS
        for name, node in nodes(ast.Call):
            if isinstance(node.func, ast.Attribute):
                self.assertIn(node.func.attr, known, (name, node.lineno))
                self.assertFalse(node.keywords, (name, node.lineno))

    def test_l20_is(self):
        for name, node in nodes(ast.Compare):
            for sign, right in zip(node.ops, node.comparators):
                if isinstance(sign, (ast.Is, ast.IsNot)):
                    self.assertIsInstance(right, ast.Constant, (name, node.lineno))
                    self.assertIn(right.value, (None, True, False), (name, node.lineno))


if __name__ == "__main__":
    unittest.main()
