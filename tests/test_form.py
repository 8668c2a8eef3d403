"""The package's files keep to the part of Python that the program is written in."""

import ast
import builtins
import pathlib
import re
import unittest

FOLDER = pathlib.Path(__file__).resolve().parent.parent / "namespecimens"
FILES = sorted(path for path in FOLDER.iterdir() if path.name != "__pycache__")

NODES = (
    "Module Expr Constant ImportFrom alias FunctionDef ClassDef arguments arg Lambda Return Assign AugAssign If IfExp "
    "While For Break Continue Pass Raise Try ExceptHandler Call keyword Attribute Subscript Slice Name Load Store List "
    "Tuple Dict Set ListComp comprehension BinOp Add Sub Mult FloorDiv Mod Pow BitAnd BitOr BitXor LShift RShift "
    "UnaryOp USub Not Invert BoolOp And Or Compare Eq NotEq Lt LtE Gt GtE In NotIn Is IsNot JoinedStr FormattedValue"
).split()

OWN_NAMES_OF_PYTHON = (
    "len range enumerate zip min max sum abs sorted reversed int str bool list tuple dict set frozenset isinstance ord "
    "repr any all divmod Exception ValueError TypeError KeyError IndexError LookupError ZeroDivisionError "
    "ArithmeticError OverflowError RuntimeError NotImplementedError AttributeError StopIteration"
).split()

METHODS = (
    "append clear copy count endswith extend find get index insert isalnum isalpha isdigit islower isspace isupper "
    "items join keys ljust lower lstrip partition pop remove replace reverse rfind rjust rpartition rsplit rstrip "
    "setdefault split splitlines startswith strip update upper values zfill bit_length"
).split()

NAMES_LEFT_OUT = (
    "register mro elements open input version_info with_traceback add_note attrgetter breakpoint builtins compile "
    "copyright credits delattr dir eval exec exit gc getattr globals hasattr help id importlib license locals "
    "methodcaller os quit setattr super sys vars format format_map"
).split()

KEYWORDS = {"sorted": ("key", "reverse"), "min": ("key", "default"), "max": ("key", "default"), "sum": ("start",)}

WALKED_IN = "list tuple dict sorted sum any all enumerate zip min max".split()

WORDS_LEFT_OUT = (
    "type typing typing_extensions enum Enum IntEnum StrEnum Flag IntFlag Generic Protocol ABC ABCMeta namedtuple "
    "NamedTuple TypedDict TYPE_CHECKING abstractmethod"
).split()


TREES = {path.name: ast.parse(path.read_text("utf-8")) for path in FILES}


def called(node):
    """The name of what is called by its plain name here, else None."""
    return node.func.id if isinstance(node, ast.Call) and isinstance(node.func, ast.Name) else None


def bound(tree):
    """Every name that is bound below here, with its parameters."""
    names = [node.id for node in ast.walk(tree) if isinstance(node, ast.Name) and isinstance(node.ctx, ast.Store)]
    return names + [node.arg for node in ast.walk(tree) if isinstance(node, ast.arg)]


def names_at_top(tree):
    names = []
    for node in tree.body:
        if isinstance(node, (ast.FunctionDef, ast.ClassDef)):
            names.append(node.name)
        if isinstance(node, ast.Assign):
            names.append(node.targets[0].id)
    return names


def imported(tree):
    return [(node.module, each.name) for node in tree.body if isinstance(node, ast.ImportFrom) for each in node.names]


class Form(unittest.TestCase):
    def nodes(self):
        for file, tree in TREES.items():
            for node in ast.walk(tree):
                yield file, node

    def parents(self):
        """Each file with each node and the node that it stands straight in."""
        for file, node in self.nodes():
            for below in ast.iter_child_nodes(node):
                yield file, node, below

    def test_files(self):
        for path in FILES:
            self.assertRegex(path.name, r"\A(__init__|[a-z][a-z0-9_]*)\.py\Z")
            self.assertRegex(path.read_bytes(), rb"\A[ -~\n]*\Z")
            rows = path.read_text("utf-8").split("\n")
            self.assertLessEqual(len(rows), 400, path.name)
            self.assertLessEqual(max(map(len, rows)), 120, path.name)

    def test_words(self):
        for path in FILES:
            words = set(re.findall(r"\w+", path.read_text("utf-8")))
            self.assertEqual(words & set(WORDS_LEFT_OUT), set(), path.name)

    def test_parts_of_the_language(self):
        for file, node in self.nodes():
            self.assertIn(type(node).__name__, NODES, file)
            if isinstance(node, ast.Constant):
                self.assertIn(type(node.value), (int, str, bool, type(None)), file)
            if isinstance(node, ast.Assign):
                self.assertEqual(len(node.targets), 1, file)
            if isinstance(node, (ast.For, ast.While)):
                self.assertEqual(node.orelse, [], file)

    def test_imports_are_the_packages_own(self):
        for file, node in self.nodes():
            if isinstance(node, ast.ImportFrom):
                self.assertEqual(node.level, 0, file)
                self.assertRegex(node.module, r"\Anamespecimens\.", file)

    def test_functions_are_short(self):
        for file, node in self.nodes():
            if isinstance(node, ast.FunctionDef):
                self.assertLessEqual(node.end_lineno - node.lineno + 1, 40, (file, node.name))

    def test_names(self):
        for file, node in self.nodes():
            if isinstance(node, ast.Name) and hasattr(builtins, node.id):
                self.assertIsInstance(node.ctx, ast.Load, (file, node.id))
                self.assertIn(node.id, OWN_NAMES_OF_PYTHON, file)
            if isinstance(node, ast.arg):
                self.assertFalse(hasattr(builtins, node.arg), (file, node.arg))
            if isinstance(node, (ast.FunctionDef, ast.ClassDef)) and node.name != "__init__":
                self.assertFalse(hasattr(builtins, node.name), (file, node.name))

    def test_methods(self):
        for file, node in self.nodes():
            if isinstance(node, ast.Call) and isinstance(node.func, ast.Attribute):
                self.assertIn(node.func.attr, METHODS, file)

    def test_top_of_each_file(self):
        for file, tree in TREES.items():
            names = names_at_top(tree) + [each for module, each in imported(tree)]
            self.assertEqual(len(names), len(set(names)), file)
            for node in tree.body:
                plain = (ast.ImportFrom, ast.FunctionDef, ast.ClassDef, ast.Assign)
                self.assertTrue(isinstance(node, plain) or node is tree.body[0], (file, node.lineno))
                if isinstance(node, ast.ImportFrom):
                    self.assertFalse([each for each in node.names if each.asname], file)
                if isinstance(node, ast.Assign) and isinstance(node.value, (ast.List, ast.Dict)):
                    inner = [each for each in ast.walk(node.value) if isinstance(each, (ast.List, ast.Dict))]
                    self.assertEqual(inner, [node.value], file)

    def test_imports_from_the_file_that_defines(self):
        for file, tree in TREES.items():
            for module, each in imported(tree):
                self.assertIn(each, names_at_top(TREES[module.split(".")[-1] + ".py"]), file)
                self.assertTrue(
                    [node for node in ast.walk(tree) if isinstance(node, ast.Name) and node.id == each], (file, each))

    def test_no_two_files_draw_from_one_another(self):
        draws = {}
        for file, tree in TREES.items():
            draws[file] = {module.split(".")[-1] + ".py" for module, each in imported(tree)}
        while draws:
            free = [file for file in draws if not draws[file] & set(draws)]
            self.assertTrue(free, draws)
            for file in free:
                draws.pop(file)

    def test_locals_are_not_called_like_imports_or_classes(self):
        for file, tree in TREES.items():
            taken = {each for module, each in imported(tree)}
            taken |= {node.name for node in tree.body if isinstance(node, ast.ClassDef)}
            self.assertEqual(taken & set(bound(tree)), set(), file)

    def test_plain_names(self):
        for file, node in self.nodes():
            for each in (getattr(node, "id", None), getattr(node, "arg", None), getattr(node, "attr", None)):
                if each is not None:
                    self.assertRegex(each, r"\A[A-Za-z][A-Za-z0-9_]*\Z", file)
                    self.assertNotIn(each, NAMES_LEFT_OUT, file)

    def test_functions_are_plain(self):
        for file, node in self.nodes():
            if isinstance(node, ast.FunctionDef):
                told = node.args
                self.assertEqual((node.decorator_list, node.returns), ([], None), (file, node.name))
                self.assertEqual((told.vararg, told.kwarg, told.kwonlyargs, told.posonlyargs), (None, None, [], []))

    def test_sets_are_not_kept(self):
        for file, node, below in self.parents():
            if called(below) == "set":
                beside = isinstance(node, (ast.BinOp, ast.Compare))
                self.assertTrue(beside or called(node) in ("sorted", "len"), (file, below.lineno))
            self.assertNotIsInstance(below, ast.Set, file)
            if isinstance(below, ast.BinOp) and isinstance(below.op, (ast.BitAnd, ast.BitOr, ast.BitXor)):
                self.assertIn(called(node), ("sorted", "len"), (file, below.lineno))

    def test_walked_at_once(self):
        for file, node, below in self.parents():
            views = isinstance(below, ast.Call) and getattr(below.func, "attr", None) in ("items", "keys", "values")
            if views or called(below) in ("zip", "enumerate", "reversed", "range"):
                walks = isinstance(node, (ast.For, ast.comprehension)) and node.iter is below
                self.assertTrue(walks or called(node) in WALKED_IN, (file, below.lineno))

    def test_keywords(self):
        for file, node in self.nodes():
            if isinstance(node, ast.Call) and node.keywords:
                self.assertLessEqual({each.arg for each in node.keywords}, set(KEYWORDS.get(called(node), ())), file)

    def test_comprehensions_have_one_walk(self):
        for file, node in self.nodes():
            if isinstance(node, ast.ListComp):
                self.assertEqual(len(node.generators), 1, file)
                self.assertLessEqual(len(node.generators[0].ifs), 1, file)
