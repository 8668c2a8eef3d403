"""The package's files keep to the part of Python that the program is written in."""

import ast
import builtins
import pathlib
import re
import unittest

FOLDER = pathlib.Path(__file__).resolve().parent.parent / "namespecimens"
FILES = sorted(path for path in FOLDER.iterdir() if path.name != "__pycache__")

NODES = (
    "Module Expr Constant ImportFrom alias FunctionDef ClassDef arguments arg Lambda Return Assign AugAssign If IfExp "
    "While For Break Continue Pass Raise Try ExceptHandler Call keyword Attribute Subscript Slice Name Load Store List "
    "Tuple Dict Set ListComp comprehension BinOp Add Sub Mult FloorDiv Mod Pow BitAnd BitOr BitXor LShift RShift "
    "UnaryOp USub Not Invert BoolOp And Or Compare Eq NotEq Lt LtE Gt GtE In NotIn Is IsNot JoinedStr FormattedValue"
).split()

OWN_NAMES_OF_PYTHON = (
    "len range enumerate zip min max sum abs sorted reversed int str bool list tuple dict set frozenset isinstance ord "
    "repr any all divmod Exception ValueError TypeError KeyError IndexError LookupError ZeroDivisionError "
    "ArithmeticError OverflowError RuntimeError NotImplementedError AttributeError StopIteration"
).split()

METHODS = (
    "append clear copy count endswith extend find get index insert isalnum isalpha isdigit islower isspace isupper "
    "items join keys ljust lower lstrip partition pop remove replace reverse rfind rjust rpartition rsplit rstrip "
    "setdefault split splitlines startswith strip update upper values zfill bit_length"
).split()

WORDS_LEFT_OUT = (
    "type typing typing_extensions enum Enum IntEnum StrEnum Flag IntFlag Generic Protocol ABC ABCMeta namedtuple "
    "NamedTuple TypedDict TYPE_CHECKING abstractmethod"
).split()


class Form(unittest.TestCase):
    def nodes(self):
        for path in FILES:
            for node in ast.walk(ast.parse(path.read_text("utf-8"))):
                yield path.name, node

    def test_files(self):
        for path in FILES:
            self.assertRegex(path.name, r"\A(__init__|[a-z][a-z0-9_]*)\.py\Z")
            self.assertRegex(path.read_bytes(), rb"\A[ -~\n]*\Z")
            rows = path.read_text("utf-8").split("\n")
            self.assertLessEqual(len(rows), 400, path.name)
            self.assertLessEqual(max(map(len, rows)), 120, path.name)

    def test_words(self):
        for path in FILES:
            words = set(re.findall(r"\w+", path.read_text("utf-8")))
            self.assertEqual(words & set(WORDS_LEFT_OUT), set(), path.name)

    def test_parts_of_the_language(self):
        for file, node in self.nodes():
            self.assertIn(type(node).__name__, NODES, file)
            if isinstance(node, ast.Constant):
                self.assertIn(type(node.value), (int, str, bool, type(None)), file)
            if isinstance(node, ast.Assign):
                self.assertEqual(len(node.targets), 1, file)
            if isinstance(node, (ast.For, ast.While)):
                self.assertEqual(node.orelse, [], file)

    def test_imports_are_the_packages_own(self):
        for file, node in self.nodes():
            if isinstance(node, ast.ImportFrom):
                self.assertEqual(node.level, 0, file)
                self.assertRegex(node.module, r"\Anamespecimens\.", file)

    def test_functions_are_short(self):
        for file, node in self.nodes():
            if isinstance(node, ast.FunctionDef):
                self.assertLessEqual(node.end_lineno - node.lineno + 1, 40, (file, node.name))

    def test_names(self):
        for file, node in self.nodes():
            if isinstance(node, ast.Name) and hasattr(builtins, node.id):
                self.assertIsInstance(node.ctx, ast.Load, (file, node.id))
                self.assertIn(node.id, OWN_NAMES_OF_PYTHON, file)
            if isinstance(node, ast.arg):
                self.assertFalse(hasattr(builtins, node.arg), (file, node.arg))
            if isinstance(node, (ast.FunctionDef, ast.ClassDef)) and node.name != "__init__":
                self.assertFalse(hasattr(builtins, node.name), (file, node.name))

    def test_methods(self):
        for file, node in self.nodes():
            if isinstance(node, ast.Call) and isinstance(node.func, ast.Attribute):
                self.assertIn(node.func.attr, METHODS, file)
