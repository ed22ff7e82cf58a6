"""The package keeps to its part of Python, as far as that can be seen from its text."""

import ast
import builtins
import pathlib
import re
import unittest

PACKAGE = pathlib.Path(__file__).resolve().parent.parent / "nursewire"

FILES = sorted(path for path in PACKAGE.rglob("*") if "__pycache__" not in path.parts)

NODES = (
    ast.With, ast.Match, ast.Delete, ast.Global, ast.Nonlocal, ast.Assert, ast.Yield, ast.YieldFrom, ast.Await,
    ast.AsyncFunctionDef, ast.AsyncFor, ast.AsyncWith, ast.SetComp, ast.DictComp, ast.GeneratorExp, ast.NamedExpr,
    ast.Starred, ast.Div, ast.MatMult, ast.Import, ast.AnnAssign,
)

PYTHON_NAMES = """len range enumerate zip min max sum abs sorted reversed int str bool list tuple dict set frozenset
isinstance ord repr any all divmod Exception ValueError KeyError IndexError LookupError ZeroDivisionError
ArithmeticError OverflowError RuntimeError NotImplementedError StopIteration""".split()

PYTHON_METHODS = """append clear copy count endswith extend find get index insert isalnum isalpha isdigit islower isspace
isupper items join keys ljust lower lstrip partition pop remove replace reverse rfind rjust rpartition rsplit rstrip
setdefault split splitlines startswith strip update upper values zfill bit_length""".split()

NOT_USED = "register mro elements open input version_info with_traceback add_note format format_map args encode".split()

WORDS = re.compile(r"\b(type|typing|typing_extensions|enum|Enum|IntEnum|StrEnum|Flag|IntFlag|Generic|Protocol|ABC|"
                   r"ABCMeta|namedtuple|NamedTuple|TypedDict|TYPE_CHECKING|abstractmethod)\b|"
                   r"dataclass|overload|contextmanager")


def each_file():
    """Of each file its name, its text and its tree."""
    texts = [(path.name, path.read_text(encoding="utf-8")) for path in FILES]
    return [(name, text, ast.parse(text)) for name, text in texts]


def names_in(tree):
    """Every name that the file gives to something, or reads."""
    for node in ast.walk(tree):
        if isinstance(node, ast.Name):
            yield node.id
        elif isinstance(node, ast.Attribute):
            yield node.attr
        elif isinstance(node, ast.arg):
            yield node.arg
        elif isinstance(node, (ast.FunctionDef, ast.ClassDef)):
            yield node.name


def bound_in(tree):
    """The names that the file's own statements bind."""
    for node in ast.walk(tree):
        if isinstance(node, ast.Name) and isinstance(node.ctx, ast.Store):
            yield node.id
        elif isinstance(node, ast.arg):
            yield node.arg
        elif isinstance(node, (ast.FunctionDef, ast.ClassDef)) and not node.name.startswith("__"):
            yield node.name


class Language(unittest.TestCase):
    def test_files(self):
        self.assertIn(PACKAGE / "__init__.py", FILES)
        for path in FILES:
            self.assertRegex(path.name, r"^[a-z][a-z0-9_]*\.py$|^__init__\.py$")

    def test_signs_and_sizes(self):
        for file, text, tree in each_file():
            self.assertRegex(text, r"\A[ -~\n]*\Z", file)
            self.assertLessEqual(len(text.splitlines()), 400, file)
            self.assertLessEqual(max(len(line) for line in text.splitlines()), 120, file)
            for node in ast.walk(tree):
                if isinstance(node, ast.FunctionDef):
                    self.assertLessEqual(node.end_lineno - node.lineno + 1, 40, node.name)

    def test_words(self):
        for file, text, tree in each_file():
            self.assertIsNone(WORDS.search(text), file)

    def test_statements_and_expressions(self):
        for file, text, tree in each_file():
            for node in ast.walk(tree):
                self.assertNotIsInstance(node, NODES, file)
                if isinstance(node, ast.Constant):
                    self.assertIn(type(node.value), (int, str, bool, type(None)), file)
                if isinstance(node, ast.Assign):
                    self.assertEqual(len(node.targets), 1, file)
                    self.assertNotIsInstance(node.targets[0], (ast.Tuple, ast.List), file)
                if isinstance(node, (ast.For, ast.While)):
                    self.assertEqual(node.orelse, [], file)
                if isinstance(node, (ast.FunctionDef, ast.ClassDef)):
                    self.assertEqual(node.decorator_list, [], file)
                if isinstance(node, ast.Compare) and isinstance(node.ops[0], (ast.Is, ast.IsNot)):
                    self.assertIn(node.comparators[0].value, (None, True, False), file)

    def test_names(self):
        for file, text, tree in each_file():
            for name in names_in(tree):
                self.assertNotIn(name, NOT_USED, file)
                self.assertTrue(name == "__init__" or not name.startswith("_"), name)
                if name in dir(builtins):
                    self.assertIn(name, PYTHON_NAMES, file)
            for name in bound_in(tree):
                self.assertNotIn(name, dir(builtins), file)

    def test_methods(self):
        for file, text, tree in each_file():
            for node in ast.walk(tree):
                if isinstance(node, ast.Call) and isinstance(node.func, ast.Attribute):
                    self.assertIn(node.func.attr, PYTHON_METHODS, file)

    def test_the_top_of_a_module(self):
        for file, text, tree in each_file():
            self.assertIsNotNone(ast.get_docstring(tree), file)
            for node in tree.body[1:]:
                self.assertIsInstance(node, (ast.ImportFrom, ast.Assign, ast.FunctionDef, ast.ClassDef), file)

    def test_imports(self):
        drawn = {}
        for path in FILES:
            tree = ast.parse(path.read_text(encoding="utf-8"))
            drawn[path.stem] = []
            for node in ast.walk(tree):
                if isinstance(node, ast.ImportFrom):
                    self.assertIn(node, tree.body)
                    self.assertEqual(node.level, 0)
                    self.assertRegex(node.module, r"^nursewire\.[a-z]+$")
                    drawn[path.stem].append(node.module.split(".")[1])
        # files whose imports are all done are taken away until none is left
        while drawn:
            ready = [name for name in drawn if not set(drawn[name]) & set(drawn)]
            self.assertNotEqual(ready, [], "files draw from one another")
            for name in ready:
                drawn.pop(name)


if __name__ == "__main__":
    unittest.main()
