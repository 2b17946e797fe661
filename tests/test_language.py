"""The package's files, held against those rules of its language that a walk over them can see."""

import ast
import builtins
import pathlib
import re
import unittest

PACKAGE = pathlib.Path(__file__).resolve().parent.parent / "momentsets"

STATEMENTS = (
    ast.Assign, ast.AugAssign, ast.If, ast.While, ast.For, ast.Return, ast.Break, ast.Continue, ast.Pass,
    ast.Raise, ast.Try, ast.Expr, ast.FunctionDef, ast.ClassDef, ast.ImportFrom,
)
EXPRESSIONS = (
    ast.Constant, ast.Name, ast.List, ast.Tuple, ast.Dict, ast.BinOp, ast.UnaryOp, ast.BoolOp, ast.Compare,
    ast.IfExp, ast.Call, ast.Attribute, ast.Subscript, ast.Slice, ast.ListComp, ast.JoinedStr,
    ast.FormattedValue, ast.Lambda,
)
BUILT_IN = """len range enumerate zip min max sum abs sorted reversed int str bool list tuple dict set frozenset
    isinstance ord repr any all divmod Exception ValueError TypeError KeyError IndexError LookupError
    ZeroDivisionError ArithmeticError OverflowError RuntimeError NotImplementedError StopIteration""".split()
METHODS = """append clear copy count endswith extend find get index insert isalnum isalpha isdigit islower isspace
    isupper items join keys ljust lower lstrip partition pop remove replace reverse rfind rjust rpartition rsplit
    rstrip setdefault split splitlines startswith strip update upper values zfill bit_length""".split()
NO_NAMES = """register mro elements open input version_info with_traceback add_note attrgetter breakpoint builtins
    compile copyright credits delattr dir eval exec exit gc getattr globals hasattr help id importlib license
    locals methodcaller os quit setattr super type vars sys""".split()
NO_WORDS = """type typing typing_extensions enum Enum IntEnum StrEnum Flag IntFlag Generic Protocol ABC ABCMeta
    namedtuple NamedTuple TypedDict TYPE_CHECKING abstractmethod""".split()


def files():
    return sorted(PACKAGE.rglob("*.py"))


def nodes(kind):
    """Each node of a kind in the package, with its file's name."""
    return [
        (path.name, node) for path in files() for node in ast.walk(ast.parse(path.read_text())) if isinstance(node, kind)
    ]


def bound_names():
    """Each name that the package gives: to a def, a class, a parameter, a local."""
    found = [(name, node.name) for name, node in nodes((ast.FunctionDef, ast.ClassDef))]
    found += [(name, node.arg) for name, node in nodes(ast.arg)]
    found += [(name, node.id) for name, node in nodes(ast.Name) if isinstance(node.ctx, ast.Store)]
    return found


class Language(unittest.TestCase):
    def test_files(self):
        for path in PACKAGE.rglob("*"):
            if "__pycache__" not in path.parts:
                self.assertTrue(path.is_file() and re.fullmatch(r"[a-z0-9_]+\.py", path.name), path)
                self.assertFalse(path.stem in dir(builtins) or path.stem.startswith("test"), path)

    def test_signs_and_sizes(self):
        for path in files():
            text = path.read_bytes().decode("ascii")
            self.assertRegex(text, r"\A[\n -~]*\Z", path)
            lines = text.split("\n")
            self.assertLess(len(lines), 400, path)
            self.assertLessEqual(max(len(line) for line in lines), 120, path)
        for name, node in nodes(ast.FunctionDef):
            self.assertLessEqual(node.end_lineno - node.lineno + 1, 40, (name, node.name))

    def test_words_that_stand_nowhere(self):
        for path in files():
            text = path.read_text()
            self.assertFalse(set(re.findall(r"\w+", text)) & set(NO_WORDS), path)
            self.assertNotRegex(text, "dataclass|overload|contextmanager", path)

    def test_statements_and_expressions(self):
        for name, node in nodes((ast.stmt, ast.expr)):
            self.assertIsInstance(node, STATEMENTS + EXPRESSIONS, (name, node.lineno))
        for name, node in nodes((ast.For, ast.While)):
            self.assertFalse(node.orelse, (name, node.lineno))
        for name, node in nodes(ast.Try):
            self.assertFalse(node.finalbody, (name, node.lineno))
        for name, node in nodes(ast.Assign):
            self.assertEqual(len(node.targets), 1, (name, node.lineno))
        for name, node in nodes(ast.comprehension):
            self.assertLessEqual(len(node.ifs), 1, name)
        for name, node in nodes(ast.operator):
            self.assertNotIsInstance(node, (ast.Div, ast.MatMult), name)
        for name, node in nodes((ast.Is, ast.IsNot)):
            self.fail(name)

    def test_constants(self):
        for name, node in nodes(ast.Constant):
            self.assertIn(type(node.value), (int, str, bool, type(None)), (name, node.lineno))
            self.assertNotIn("%", str(node.value), (name, node.lineno))

    def test_imports(self):
        for name, node in nodes(ast.ImportFrom):
            self.assertEqual(node.level, 0, name)
            self.assertTrue(node.module.startswith("momentsets."), name)
            self.assertNotIn("*", [alias.name for alias in node.names], name)

    def test_functions(self):
        for name, node in nodes(ast.FunctionDef):
            self.assertFalse(node.decorator_list or node.args.vararg or node.args.kwarg or node.args.kwonlyargs, name)

    def test_names_that_are_read(self):
        for name, node in nodes(ast.Name):
            if node.id in dir(builtins):
                self.assertIn(node.id, BUILT_IN, (name, node.lineno))
            self.assertNotIn(node.id, NO_NAMES, (name, node.lineno))

    def test_names_that_are_given(self):
        for name, given in bound_names():
            self.assertRegex(given, r"\A[A-Za-z][A-Za-z0-9_]*\Z", name)
            self.assertNotIn(given, dir(builtins), name)
            self.assertNotIn(given, NO_NAMES, name)

    def test_no_local_is_called_like_an_import(self):
        imported = [(name, alias.name) for name, node in nodes(ast.ImportFrom) for alias in node.names]
        for pair in bound_names():
            self.assertNotIn(pair, imported)

    def test_methods(self):
        for name, node in nodes(ast.Attribute):
            self.assertIn(node.attr, METHODS, (name, node.lineno))

    def test_the_interface_is_written_once(self):
        found = [name for name, node in nodes((ast.FunctionDef, ast.ClassDef)) if node.name == "answers"]
        self.assertEqual(found, ["registers.py"])


if __name__ == "__main__":
    unittest.main()
