"""Holds the package's files to what is easily seen of the language's rules: parts of L1, L2, L4, L6, L7, L8, L10, L12,
L14, L16, L17, L25 and L27. The rest of them, and the other rules, are left to the reader."""

import ast
import builtins
import pathlib
import re
import unittest

PACKAGE = pathlib.Path(__file__).resolve().parent.parent / "handwatch"

OWN_NAMES = (
    "len range enumerate zip min max sum abs sorted reversed int str bool list tuple dict set frozenset isinstance ord "
    "repr any all divmod Exception ValueError TypeError KeyError IndexError LookupError ZeroDivisionError "
    "ArithmeticError OverflowError RuntimeError NotImplementedError AttributeError StopIteration"
).split()
OWN_METHODS = (
    "append clear copy count endswith extend find get index insert isalnum isalpha isdigit islower isspace isupper "
    "items join keys ljust lower lstrip partition pop remove replace reverse rfind rjust rpartition rsplit rstrip "
    "setdefault split splitlines startswith strip update upper values zfill bit_length"
).split()
FREE_METHODS = ("add", "discard", "title")
TWO_UNDERSCORES = ("__init__", "__eq__", "__repr__", "__str__", "__len__")
NO_NAMES = (
    "register mro elements open input version_info with_traceback add_note attrgetter breakpoint builtins compile "
    "copyright credits delattr dir eval exec exit gc getattr globals hasattr help id importlib license locals "
    "methodcaller os quit setattr super type vars sys"
).split()
NO_WORDS = re.compile(
    r"\b(type|typing|typing_extensions|enum|Enum|IntEnum|StrEnum|Flag|IntFlag|Generic|Protocol|ABC|ABCMeta|namedtuple"
    r"|NamedTuple|TypedDict|TYPE_CHECKING|abstractmethod)\b|dataclass|overload|contextmanager"
)
NO_FILE_NAMES = ("test", "tests", "testing", "site", "conftest", "sitecustomize", "usercustomize")
NO_STEPS = (
    ast.With, ast.Match, ast.Delete, ast.Global, ast.Nonlocal, ast.Assert, ast.Yield, ast.YieldFrom, ast.Await,
    ast.AsyncFunctionDef, ast.AsyncFor, ast.AsyncWith, ast.Import, ast.Starred, ast.NamedExpr, ast.SetComp,
    ast.DictComp, ast.GeneratorExp, ast.Div,
)


def package_files():
    return sorted(path for path in PACKAGE.rglob("*") if "__pycache__" not in path.parts)


def trees():
    return [(path, ast.parse(path.read_text(encoding="utf-8"))) for path in package_files()]


def nodes(kind):
    return [(path, node) for path, tree in trees() for node in ast.walk(tree) if isinstance(node, kind)]


def bound_names(tree):
    """The names that a file's own text binds, those of its defs included."""
    names = []
    for node in ast.walk(tree):
        if isinstance(node, (ast.FunctionDef, ast.ClassDef)):
            names.append(node.name)
        elif isinstance(node, ast.Name) and isinstance(node.ctx, ast.Store):
            names.append(node.id)
        elif isinstance(node, ast.arg):
            names.append(node.arg)
    return names


def top_names(tree):
    names = [node.name for node in tree.body if isinstance(node, (ast.FunctionDef, ast.ClassDef))]
    for node in tree.body:
        if isinstance(node, ast.Assign):
            names.extend(target.id for target in node.targets)
    return names


class Files(unittest.TestCase):
    def test_names_of_files(self):
        self.assertTrue((PACKAGE / "__init__.py").is_file())
        for path in package_files():
            self.assertTrue(path.is_file() and path.suffix == ".py", path)
            self.assertRegex(path.stem, r"\A([a-z][a-z0-9_]*|__init__)\Z")
            self.assertFalse(path.stem in NO_FILE_NAMES or path.stem.startswith("test_"), path)
            self.assertFalse(path.stem in dir(builtins) or NO_WORDS.search(path.stem), path)

    def test_size_and_signs(self):
        for path in package_files():
            text = path.read_bytes().decode("ascii")
            self.assertRegex(text, r"\A[ -~\n]*\Z", path)
            rows = text.split("\n")
            self.assertLessEqual(len(rows), 401, path)
            self.assertLessEqual(max(len(row) for row in rows), 120, path)

    def test_words_that_stand_nowhere(self):
        for path in package_files():
            self.assertIsNone(NO_WORDS.search(path.read_text(encoding="utf-8")), path)


class Imports(unittest.TestCase):
    def test_only_the_packages_own_from_where_they_are_defined(self):
        tops = {"handwatch." + path.stem: top_names(tree) for path, tree in trees()}
        for path, node in nodes(ast.ImportFrom):
            self.assertEqual(node.level, 0, path)
            self.assertIn(node.module, tops, path)
            for name in node.names:
                self.assertIn(name.name, tops[node.module], path)
                self.assertIsNone(name.asname, path)

    def test_no_two_files_draw_from_one_another(self):
        drawn = {"handwatch." + path.stem: [] for path in package_files()}
        for path, node in nodes(ast.ImportFrom):
            drawn["handwatch." + path.stem].append(node.module)
        while drawn:
            free = [name for name in drawn if not any(source in drawn for source in drawn[name])]
            self.assertTrue(free, drawn)
            for name in free:
                del drawn[name]


class Steps(unittest.TestCase):
    def test_no_steps_outside_the_rules(self):
        for path, node in nodes(NO_STEPS):
            self.fail(f"{path}: {ast.dump(node)}")

    def test_statements(self):
        for path, node in nodes((ast.For, ast.While)):
            self.assertEqual(node.orelse, [], path)
        for path, node in nodes(ast.Try):
            self.assertEqual(node.finalbody, [], path)
        for path, node in nodes(ast.Assign):
            self.assertEqual(len(node.targets), 1, path)
            self.assertNotIsInstance(node.targets[0], (ast.Tuple, ast.List), path)
        for path, node in nodes(ast.ListComp):
            self.assertEqual(len(node.generators), 1, path)
            self.assertLessEqual(len(node.generators[0].ifs), 1, path)

    def test_only_calls_stand_by_themselves(self):
        # The rules name a docstring at a file's top alone.
        for path, tree in trees():
            for node in ast.walk(tree):
                if isinstance(node, ast.Expr) and node is not tree.body[0]:
                    self.assertIsInstance(node.value, ast.Call, path)

    def test_functions(self):
        for path, node in nodes((ast.FunctionDef, ast.ClassDef)):
            self.assertEqual(node.decorator_list, [], path)
        for path, node in nodes(ast.FunctionDef):
            self.assertLessEqual(node.end_lineno - node.lineno + 1, 40, node.name)
        for path, node in nodes(ast.arguments):
            self.assertFalse(node.vararg or node.kwarg or node.kwonlyargs or node.posonlyargs, path)

    def test_plain_values(self):
        for path, node in nodes(ast.Constant):
            self.assertIsInstance(node.value, (int, str, type(None)), path)
            self.assertFalse(isinstance(node.value, str) and "%" in node.value, path)


class Names(unittest.TestCase):
    def test_names_of_pythons_own(self):
        for path, node in nodes(ast.Name):
            if node.id in dir(builtins):
                self.assertIn(node.id, OWN_NAMES, path)
            self.assertNotIn(node.id, NO_NAMES, path)

    def test_bound_names_are_plain_and_pythons_own_keep_their_meaning(self):
        methods = [item.name for path, node in nodes(ast.ClassDef) for item in node.body if hasattr(item, "name")]
        for path, tree in trees():
            for name in bound_names(tree):
                if name not in methods:
                    self.assertNotIn(name, dir(builtins), path)
                if name not in TWO_UNDERSCORES:
                    self.assertRegex(name, r"\A[A-Za-z][A-Za-z0-9_]*\Z", path)

    def test_methods_of_pythons_own_values(self):
        known = set()
        for kind in (str, int, list, dict, set, tuple, bytes):
            known.update(dir(kind))
        for path, node in nodes(ast.Attribute):
            if node.attr in known and node.attr not in TWO_UNDERSCORES:
                self.assertIn(node.attr, list(OWN_METHODS) + list(FREE_METHODS), path)


if __name__ == "__main__":
    unittest.main()
