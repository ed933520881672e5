"""Rules of ../shared/LANGUAGE.md that a look at the files' syntax can tell; it does not see all of them."""

import ast
import builtins
import pathlib
import re
import unittest

FOLDER = pathlib.Path(__file__).resolve().parent.parent / "nevertakenback"
FILES = {path.stem: path.read_text(encoding="utf-8") for path in sorted(FOLDER.glob("*.py"))}
TREES = {name: ast.parse(text) for name, text in FILES.items()}

BUILTINS = set(
    "len range enumerate zip min max sum abs sorted reversed int str bool list tuple dict set isinstance ord repr any all "
    "divmod Exception ValueError TypeError KeyError IndexError LookupError ZeroDivisionError ArithmeticError "
    "OverflowError RuntimeError NotImplementedError AttributeError".split()
)
NAMES = {name for name in dir(builtins) if name != "_"}
LIBRARY = {"heapq": {"heappush", "heappop"}, "math": {"gcd", "lcm", "isqrt"}, "itertools": {"product", "combinations"}}
METHODS = set(
    "append clear copy count endswith extend find get index insert isalnum isalpha isdigit islower isspace isupper "
    "items join keys ljust lower lstrip partition pop remove replace reverse rfind rjust rpartition rsplit rstrip "
    "setdefault split splitlines startswith strip update upper values zfill bit_length title capitalize swapcase "
    "casefold center expandtabs removeprefix removesuffix rindex isascii isdecimal isnumeric istitle isidentifier "
    "isprintable translate".split()
)
BARRED = (ast.AsyncFunctionDef, ast.AsyncFor, ast.AsyncWith, ast.Await, ast.Div, ast.MatMult, ast.Import)
WORDS = set(
    "type typing typing_extensions enum Enum IntEnum StrEnum Flag IntFlag Generic Protocol ABC ABCMeta namedtuple "
    "NamedTuple TypedDict TYPE_CHECKING abstractmethod".split()
)


def nodes(kinds):
    for name, tree in TREES.items():
        for node in ast.walk(tree):
            if isinstance(node, kinds):
                yield name, node


def docstrings(tree):
    """The nodes of all docstrings."""
    found = set()
    for node in ast.walk(tree):
        if isinstance(node, (ast.Module, ast.ClassDef, ast.FunctionDef)) and ast.get_docstring(node) is not None:
            found.add(node.body[0].value)
    return found


class Files(unittest.TestCase):
    def test_the_folder_holds_files_alone(self):
        for path in FOLDER.iterdir():
            if path.name != "__pycache__":
                self.assertRegex(path.name, r"\A([a-z][a-z0-9_]*|__init__)\.py\Z")

    def test_sizes_and_signs(self):
        for name, text in FILES.items():
            lines = text.split("\n")
            self.assertLessEqual(len(lines), 400, name)
            self.assertLessEqual(max(len(line) for line in lines), 120, name)
            self.assertRegex(text, r"\A[ -~\n]*\Z")
        for name, node in nodes(ast.FunctionDef):
            self.assertLessEqual(node.end_lineno - node.lineno + 1, 40, f"{name}.{node.name}")

    def test_imports(self):
        reached = {}
        for name, node in nodes(ast.ImportFrom):
            self.assertEqual(node.level, 0)
            for alias in node.names:
                self.assertIsNone(alias.asname)
                if node.module in LIBRARY:
                    self.assertIn(alias.name, LIBRARY[node.module])
                    continue
                package, file = node.module.split(".")
                self.assertEqual(package, "nevertakenback")
                own = [getattr(row, "name", None) for row in TREES[file].body]
                own += [row.targets[0].id for row in TREES[file].body if isinstance(row, ast.Assign)]
                self.assertIn(alias.name, own)
                reached.setdefault(name, set()).add(file)
        for _ in FILES:
            for name in reached:
                reached[name] |= {far for file in reached[name] for far in reached.get(file, ())}
        for name in reached:
            self.assertNotIn(name, reached[name], "imports in a ring")

    def test_module_level(self):
        for name, tree in TREES.items():
            for row in tree.body:
                is_docstring = isinstance(row, ast.Expr) and isinstance(row.value, ast.Constant)
                plain = (ast.ImportFrom, ast.FunctionDef, ast.ClassDef, ast.Assign)
                self.assertTrue(is_docstring or isinstance(row, plain), f"{name} {row.lineno}")
                if isinstance(row, ast.Assign):
                    self.assertFalse([node for node in ast.walk(row) if isinstance(node, (ast.Call, ast.ListComp))])


class Words(unittest.TestCase):
    def test_kinds_of_statements_and_values(self):
        for name, node in nodes(BARRED):
            self.fail(f"{name} {node.lineno}: {type(node).__name__}")
        for name, node in nodes(ast.Constant):
            self.assertNotIsInstance(node.value, (float, complex, bytes), name)
        for name, node in nodes((ast.FunctionDef, ast.ClassDef)):
            self.assertEqual(node.decorator_list, [], name)
        for name, node in nodes(ast.ExceptHandler):
            self.assertIsNotNone(node.type, name)

    def test_builtins_and_methods(self):
        own = {node.name for _, node in nodes(ast.FunctionDef)}
        for name, node in nodes(ast.Name):
            if isinstance(node.ctx, ast.Load) and node.id in NAMES:
                self.assertIn(node.id, BUILTINS, name)
        for name, node in nodes(ast.Call):
            if isinstance(node.func, ast.Attribute):
                self.assertIn(node.func.attr, METHODS | own | {"__init__"}, name)

    def test_names_are_not_those_of_builtins_or_imports(self):
        for name, tree in TREES.items():
            taken = {row.name for row in tree.body if isinstance(row, ast.ClassDef)}
            for row in tree.body:
                if isinstance(row, ast.ImportFrom):
                    taken |= {alias.name for alias in row.names}
            for node in ast.walk(tree):
                if isinstance(node, ast.Name) and isinstance(node.ctx, ast.Store):
                    bound = node.id
                elif isinstance(node, ast.arg):
                    bound = node.arg
                elif isinstance(node, (ast.FunctionDef, ast.ClassDef)) and not node.name.startswith("__"):
                    bound = node.name
                else:
                    continue
                self.assertNotIn(bound, NAMES, name)
                self.assertTrue(bound not in taken or isinstance(node, ast.ClassDef), f"{name} {bound}")
                self.assertRegex(bound, r"\A(_|_?[A-Za-z][A-Za-z0-9_]*)\Z")

    def test_attributes_are_not_methods_of_builtin_values(self):
        known = {word for kind in (str, int, list, dict, set, bytes) for word in dir(kind)}
        for name, node in nodes(ast.Attribute):
            if isinstance(node.ctx, ast.Store):
                self.assertNotIn(node.attr, known, name)

    def test_generators_stand_in_no_reckoning(self):
        # The package has classes with __eq__, so any, all and the like take lists (L7).
        for name, node in nodes(ast.Call):
            if isinstance(node.func, ast.Name) and node.func.id in ("any", "all", "min", "max", "sum", "sorted"):
                self.assertFalse([arg for arg in node.args if isinstance(arg, ast.GeneratorExp)], name)

    def test_strings(self):
        for name, tree in TREES.items():
            told = docstrings(tree)
            for node in ast.walk(tree):
                if isinstance(node, ast.Constant) and isinstance(node.value, str) and node not in told:
                    self.assertNotIn("%", node.value, name)
                    self.assertFalse(WORDS & set(re.findall(r"\w+", node.value)), name)
                    self.assertNotIn("__", node.value, name)
