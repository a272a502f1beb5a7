"""The rules of the language that a plain look at the package's files can see."""

import ast
import builtins
import pathlib
import re
import unittest

PACKAGE = pathlib.Path(__file__).resolve().parent.parent / "tautroads"

BUILTINS = set(
    "len range enumerate zip min max sum abs sorted reversed int str bool bytes list tuple dict set frozenset "
    "isinstance ord repr any all divmod Exception ValueError TypeError KeyError IndexError LookupError "
    "ZeroDivisionError ArithmeticError OverflowError RuntimeError NotImplementedError AttributeError "
    "StopIteration".split()
)
METHODS = {"__init__", "__eq__", "__repr__", "__str__", "__len__", "__enter__", "__exit__"}
BARRED_NAMES = set(
    "register mro elements open input version_info with_traceback add_note attrgetter breakpoint builtins compile "
    "copyright credits delattr dir eval exec exit gc getattr globals hasattr help id importlib license locals "
    "methodcaller os quit setattr super type vars sys".split()
)
BARRED_WORDS = re.compile(
    r"\b(type|typing|typing_extensions|enum|Enum|IntEnum|StrEnum|Flag|IntFlag|Generic|Protocol|ABC|ABCMeta|namedtuple|"
    r"NamedTuple|TypedDict|TYPE_CHECKING|abstractmethod)\b|dataclass|overload|contextmanager"
)
VALUE_METHODS = set(
    "append clear copy count endswith extend find get index insert isalnum isalpha isdigit islower isspace isupper items "
    "join keys ljust lower lstrip partition pop remove replace reverse rfind rjust rpartition rsplit rstrip setdefault "
    "split splitlines startswith strip update upper values zfill bit_length sort removeprefix removesuffix isdecimal".split()
)
BARRED_NODES = (
    ast.Global, ast.AsyncFunctionDef, ast.AsyncFor, ast.AsyncWith, ast.Await, ast.NamedExpr, ast.Import, ast.Div,
)


def files():
    return sorted(path for path in PACKAGE.rglob("*") if "__pycache__" not in path.parts and path.is_file())


def trees():
    return [(path, ast.parse(path.read_text(encoding="ascii"))) for path in files()]


def bound_names(tree):
    """Every name that a file binds, with its line."""
    for node in ast.walk(tree):
        if isinstance(node, ast.Name) and isinstance(node.ctx, ast.Store):
            yield node.id, node.lineno
        elif isinstance(node, ast.arg):
            yield node.arg, node.lineno
        elif isinstance(node, ast.FunctionDef | ast.ClassDef):
            yield node.name, node.lineno
        elif isinstance(node, ast.ExceptHandler) and node.name:
            yield node.name, node.lineno


class Language(unittest.TestCase):
    def test_files_and_signs(self):
        self.assertIn(PACKAGE / "__init__.py", files())
        for path in files():
            self.assertRegex(path.name, r"\A[a-z0-9_]+\.py\Z")
            text = path.read_text(encoding="ascii")
            self.assertRegex(text, r"\A[\n -~]*\Z", path)
            self.assertIsNone(BARRED_WORDS.search(text), path)
            self.assertLessEqual(len(text.splitlines()), 400, path)
            self.assertLessEqual(max([len(line) for line in text.splitlines()], default=0), 120, path)

    def test_functions_are_short(self):
        for path, tree in trees():
            for node in ast.walk(tree):
                if isinstance(node, ast.FunctionDef):
                    self.assertLessEqual(node.end_lineno - node.lineno + 1, 40, (path, node.name))

    def test_nothing_barred(self):
        for path, tree in trees():
            for node in ast.walk(tree):
                self.assertNotIsInstance(node, BARRED_NODES, path)
                if isinstance(node, ast.Constant):
                    self.assertNotIsInstance(node.value, float | complex, (path, node.lineno))
                    if isinstance(node.value, str):
                        self.assertNotIn("%", node.value, (path, node.lineno))
                if isinstance(node, ast.Compare):
                    for sign, right in zip(node.ops, node.comparators):
                        if isinstance(sign, ast.Is | ast.IsNot):
                            self.assertIsInstance(right, ast.Constant, (path, node.lineno))

    def test_imports_name_modules_of_the_package(self):
        for path, tree in trees():
            for node in ast.walk(tree):
                if isinstance(node, ast.ImportFrom):
                    self.assertIn(node, tree.body, path)
                    self.assertEqual(node.level, 0, path)
                    self.assertTrue((PACKAGE.parent / (node.module.replace(".", "/") + ".py")).is_file(), (path, node.module))
                    self.assertNotIn("*", [alias.name for alias in node.names], path)

    def test_no_file_imports_itself_through_others(self):
        wanted = {
            path.stem: {node.module.rpartition(".")[2] for node in tree.body if isinstance(node, ast.ImportFrom)}
            for path, tree in trees()
        }
        for turn in wanted:
            wanted = {name: found.union(*[wanted[other] for other in found]) for name, found in wanted.items()}
        for name, found in wanted.items():
            self.assertNotIn(name, found)

    def test_only_methods_allowed_or_own(self):
        own = {node.name for path, tree in trees() for node in ast.walk(tree) if isinstance(node, ast.FunctionDef)}
        for path, tree in trees():
            for node in ast.walk(tree):
                if isinstance(node, ast.Call) and isinstance(node.func, ast.Attribute):
                    self.assertIn(node.func.attr, VALUE_METHODS | own, (path, node.lineno))

    def test_names(self):
        for path, tree in trees():
            taken = {alias.asname or alias.name for node in tree.body if isinstance(node, ast.ImportFrom) for alias in node.names}
            classes = {node.name for node in tree.body if isinstance(node, ast.ClassDef)}
            for name, line in bound_names(tree):
                where = (path, line, name)
                self.assertTrue(name in METHODS or not name.startswith("_"), where)
                self.assertNotIn(name, taken | BARRED_NAMES, where)
                self.assertFalse(name not in METHODS and hasattr(builtins, name), where)
            for node in ast.walk(tree):
                if isinstance(node, ast.arg | ast.Name) and not isinstance(getattr(node, "ctx", None), ast.Load):
                    self.assertNotIn(getattr(node, "arg", getattr(node, "id", None)), classes, path)

    def test_only_the_builtins_allowed(self):
        for path, tree in trees():
            for node in ast.walk(tree):
                if isinstance(node, ast.Name) and hasattr(builtins, node.id):
                    self.assertIn(node.id, BUILTINS, (path, node.lineno))

    def test_no_name_is_a_method_and_an_attribute(self):
        methods, assigned, read = set(), set(), set()
        for path, tree in trees():
            for node in ast.walk(tree):
                if isinstance(node, ast.ClassDef):
                    methods |= {part.name for part in node.body if isinstance(part, ast.FunctionDef)}
                    self.assertEqual(node.decorator_list, [], path)
                elif isinstance(node, ast.Attribute):
                    (assigned if isinstance(node.ctx, ast.Store) else read).add(node.attr)
        self.assertEqual(methods & assigned, set())
        self.assertEqual(read - assigned - methods - VALUE_METHODS, set())

    def test_double_underscore_methods(self):
        for path, tree in trees():
            for node in ast.walk(tree):
                if isinstance(node, ast.FunctionDef) and node.name.startswith("__"):
                    self.assertIn(node.name, METHODS, path)

    def test_raised_errors_are_made_on_the_spot(self):
        for path, tree in trees():
            for node in ast.walk(tree):
                if isinstance(node, ast.Raise):
                    self.assertIsInstance(node.exc, ast.Call, (path, node.lineno))
                    self.assertIsInstance(node.exc.func, ast.Name, (path, node.lineno))
                if isinstance(node, ast.ExceptHandler):
                    self.assertIsNotNone(node.type, (path, node.lineno))

    def test_module_level_names_are_bound_once(self):
        for path, tree in trees():
            names = []
            for node in tree.body:
                if isinstance(node, ast.ImportFrom):
                    names += [alias.asname or alias.name for alias in node.names]
                elif isinstance(node, ast.FunctionDef | ast.ClassDef):
                    names.append(node.name)
                elif isinstance(node, ast.Assign):
                    names += [target.id for target in node.targets]
                else:
                    self.assertTrue(isinstance(node, ast.Expr) and isinstance(node.value, ast.Constant), (path, node.lineno))
            self.assertEqual(len(names), len(set(names)), path)


if __name__ == "__main__":
    unittest.main()
