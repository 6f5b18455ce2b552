"""Some rules of LANGUAGE.md, those that are easy to see in the files, and [2]: no clock, chance or files."""

import ast
import builtins
import pathlib
import re
import unittest

FOLDER = pathlib.Path(__file__).resolve().parent.parent / "pillarstore"
PACKAGE = "pillarstore"

ALLOWED_BUILTINS = set(
    "len range enumerate zip min max sum abs sorted reversed int str bool bytes list tuple dict set frozenset "
    "isinstance ord repr any all divmod super property staticmethod classmethod Exception ValueError TypeError "
    "KeyError IndexError LookupError ZeroDivisionError ArithmeticError OverflowError RuntimeError "
    "NotImplementedError AttributeError StopIteration NotImplemented object float".split()
)
BUILTIN_METHODS = set(
    "append clear copy count endswith extend find get index insert isalnum isalpha isdigit islower isspace isupper "
    "items join keys ljust lower lstrip partition pop remove replace reverse rfind rjust rpartition rsplit rstrip "
    "setdefault split splitlines startswith strip update upper values zfill bit_length title capitalize swapcase "
    "casefold center expandtabs removeprefix removesuffix rindex isascii isdecimal isnumeric istitle isidentifier "
    "isprintable translate sort add discard".split()
)
ALLOWED_DUNDERS = set(
    "__init__ __eq__ __repr__ __str__ __len__ __enter__ __exit__ __call__ __iter__ __lt__ __le__ __gt__ __ge__ "
    "__ne__ __contains__ __getitem__ __setitem__ __bool__".split()
)
BARRED_NAMES = set(
    "register mro elements open input version_info with_traceback add_note attrgetter breakpoint builtins compile "
    "copyright credits delattr dir eval exec exit gc getattr globals hasattr help id importlib license locals "
    "methodcaller os quit setattr type vars sys format format_map chr print".split()
)
BARRED_WORDS = re.compile(
    r"\b(type|typing|typing_extensions|enum|Enum|IntEnum|StrEnum|Flag|IntFlag|Generic|Protocol|ABC|ABCMeta|"
    r"namedtuple|NamedTuple|TypedDict|TYPE_CHECKING|abstractmethod)\b|dataclass|overload|contextmanager"
)
BARRED_NODES = (
    ast.Global, ast.AsyncFunctionDef, ast.AsyncFor, ast.AsyncWith, ast.Await, ast.Import, ast.Div, ast.MatMult,
)
SHADOWED = set(dir(builtins))


def files():
    return sorted(FOLDER.glob("*.py"))


def trees():
    return [(path.stem, ast.parse(path.read_text())) for path in files()]


def walked(kinds):
    return [(stem, node) for stem, tree in trees() for node in ast.walk(tree) if isinstance(node, kinds)]


def functions():
    return walked(ast.FunctionDef)


def top_names(tree):
    """The names that a file binds at module level, each as often as it is bound."""
    names = []
    for node in tree.body:
        if isinstance(node, (ast.FunctionDef, ast.ClassDef)):
            names.append(node.name)
        elif isinstance(node, ast.Assign):
            names += [target.id for target in node.targets]
        elif isinstance(node, ast.ImportFrom):
            names += [alias.asname or alias.name for alias in node.names]
    return names


def local_names(tree):
    """Parameters and what functions assign, by loops and comprehensions, too."""
    names = [node.arg for node in ast.walk(tree) if isinstance(node, ast.arg)]
    for function in ast.walk(tree):
        if isinstance(function, ast.FunctionDef):
            stored = [n for n in ast.walk(function) if isinstance(n, ast.Name) and isinstance(n.ctx, ast.Store)]
            names += [node.id for node in stored]
    return names


class FilesTest(unittest.TestCase):
    def test_l1_and_l14_only_plain_files(self):
        found = [path.name for path in FOLDER.iterdir() if path.name != "__pycache__"]
        self.assertIn("__init__.py", found)
        for name in found:
            self.assertRegex(name, r"\A([a-z][a-z0-9_]*|__init__|__main__)\.py\Z")

    def test_l10_sizes(self):
        for path in files():
            lines = path.read_text().split("\n")
            self.assertLessEqual(len(lines), 401, path.name)
            self.assertLessEqual(max(map(len, lines)), 120, path.name)
        for stem, node in functions():
            self.assertLessEqual(node.end_lineno - node.lineno + 1, 40, (stem, node.name))

    def test_l14_characters(self):
        for path in files():
            self.assertRegex(path.read_bytes(), rb"\A[ -~\n]*\Z", path.name)

    def test_l17_words(self):
        for path in files():
            self.assertIsNone(BARRED_WORDS.search(path.read_text()), path.name)


class ImportsTest(unittest.TestCase):
    def test_l2_and_l16_only_from_the_file_that_defines_it(self):
        defined = {stem: tree for stem, tree in trees()}
        for stem, node in walked(ast.ImportFrom):
            self.assertEqual(node.level, 0)
            package, _dot, source = node.module.partition(".")
            self.assertEqual(package, PACKAGE, stem)
            own = [n for n in top_names(defined[source])]
            taken = [a.name for n in defined[source].body if isinstance(n, ast.ImportFrom) for a in n.names]
            for alias in node.names:
                self.assertIn(alias.name, own, stem)
                self.assertNotIn(alias.name, taken, stem)

    def test_l16_no_files_import_from_each_other(self):
        needs = {stem: [] for stem, _tree in trees()}
        for stem, node in walked(ast.ImportFrom):
            needs[stem].append(node.module.partition(".")[2])
        while needs:
            free = [stem for stem in needs if not any(other in needs for other in needs[stem])]
            self.assertTrue(free, needs)
            for stem in free:
                del needs[stem]


class NamesTest(unittest.TestCase):
    def test_l3_module_level(self):
        allowed = (ast.ImportFrom, ast.FunctionDef, ast.ClassDef, ast.Assign)
        for stem, tree in trees():
            self.assertTrue(ast.get_docstring(tree), stem)
            for node in tree.body[1:]:
                self.assertIsInstance(node, allowed, stem)

    def test_l15_bound_once_and_not_shadowed(self):
        for stem, tree in trees():
            names = top_names(tree)
            self.assertEqual(len(names), len(set(names)), stem)
            fixed = {a.name for n in tree.body if isinstance(n, ast.ImportFrom) for a in n.names}
            fixed |= {n.name for n in tree.body if isinstance(n, ast.ClassDef)} | SHADOWED
            self.assertEqual([name for name in local_names(tree) if name in fixed], [], stem)

    def test_l8_builtins(self):
        for stem, tree in trees():
            bound = set(top_names(tree)) | set(local_names(tree))
            bound |= {node.name for node in ast.walk(tree) if isinstance(node, ast.FunctionDef)}
            for node in ast.walk(tree):
                if isinstance(node, ast.Name) and node.id not in bound:
                    self.assertIn(node.id, ALLOWED_BUILTINS, stem)

    def test_l12_and_l17_names(self):
        for stem, tree in trees():
            names = top_names(tree) + local_names(tree)
            names += [node.attr for node in ast.walk(tree) if isinstance(node, ast.Attribute)]
            names += [node.name for node in ast.walk(tree) if isinstance(node, ast.FunctionDef)]
            for name in names:
                self.assertNotIn(name, BARRED_NAMES, stem)
                self.assertTrue(name in ALLOWED_DUNDERS or not name.startswith("_"), (stem, name))

    def test_l18_no_name_is_a_method_and_an_attribute(self):
        methods = {m.name for _s, c in walked(ast.ClassDef) for m in c.body if isinstance(m, ast.FunctionDef)}
        stored = {n.attr for _s, n in walked(ast.Attribute) if isinstance(n.ctx, ast.Store)}
        self.assertEqual(methods & stored, set())

    def test_l25_methods(self):
        own = {m.name for _s, c in walked(ast.ClassDef) for m in c.body if isinstance(m, ast.FunctionDef)}
        for stem, node in walked(ast.Call):
            if isinstance(node.func, ast.Attribute):
                self.assertIn(node.func.attr, BUILTIN_METHODS | own, (stem, node.lineno))


class RowsTest(unittest.TestCase):
    def test_l6_and_l7_nothing_barred(self):
        self.assertEqual([(stem, node.lineno) for stem, node in walked(BARRED_NODES)], [])
        for stem, node in walked(ast.Constant):
            self.assertNotIsInstance(node.value, (float, complex), (stem, node.lineno))

    def test_l4_decorators_stand_over_methods_only(self):
        for stem, tree in trees():
            for node in tree.body:
                if isinstance(node, (ast.FunctionDef, ast.ClassDef)):
                    self.assertEqual(node.decorator_list, [], (stem, node.name))

    def test_l20_is(self):
        for stem, node in walked(ast.Compare):
            for sign, right in zip(node.ops, node.comparators):
                if isinstance(sign, (ast.Is, ast.IsNot)):
                    self.assertIsInstance(right, ast.Constant, (stem, node.lineno))
                    self.assertIn(right.value, (None, True, False), (stem, node.lineno))

    def test_l27_strings(self):
        for stem, node in walked(ast.Constant):
            if isinstance(node.value, str):
                self.assertNotIn("%", node.value, (stem, node.lineno))
                self.assertFalse(node.value.endswith(("._", ".__")), (stem, node.lineno))


if __name__ == "__main__":
    unittest.main()
