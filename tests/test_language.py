"""The package keeps to the part of Python that it is written in, as far as its files show it."""

import ast
import pathlib
import re
import unittest

PACKAGE = pathlib.Path(__file__).resolve().parent.parent / "realsay"
FILES = sorted(PACKAGE.glob("*.py"))

OWN_NAMES = set("""
len range enumerate zip min max sum abs sorted reversed int str bool list tuple dict set frozenset isinstance
ord repr any all divmod Exception ValueError TypeError KeyError IndexError LookupError ZeroDivisionError
ArithmeticError OverflowError RuntimeError NotImplementedError AttributeError StopIteration
""".split())
OTHER_BUILT_IN = set(dir(__builtins__) if not isinstance(__builtins__, dict) else __builtins__) - OWN_NAMES
METHODS = set("""
append clear copy count endswith extend find get index insert isalnum isalpha isdigit islower isspace isupper
items join keys ljust lower lstrip partition pop remove replace reverse rfind rjust rpartition rsplit rstrip
setdefault split splitlines startswith strip update upper values zfill bit_length
""".split())
UNDERSCORED = {"__init__", "__eq__", "__repr__", "__str__", "__len__"}
NO_WORDS = re.compile(r"""\b(type|typing|typing_extensions|enum|Enum|IntEnum|StrEnum|Flag|IntFlag|Generic|Protocol
|ABC|ABCMeta|namedtuple|NamedTuple|TypedDict|TYPE_CHECKING|abstractmethod)\b|dataclass|overload|contextmanager""",
                      re.VERBOSE)
NODES = set("""
Module ImportFrom alias FunctionDef ClassDef arguments arg Return Assign AugAssign For While If Raise Try
ExceptHandler Expr Pass Break Continue Lambda BoolOp BinOp UnaryOp IfExp Dict Set List Tuple ListComp
comprehension Compare Call keyword JoinedStr FormattedValue Constant Attribute Subscript Slice Name Load Store
And Or Not Add Sub Mult FloorDiv Mod Pow LShift RShift BitOr BitXor BitAnd Invert UAdd USub
Eq NotEq Lt LtE Gt GtE Is IsNot In NotIn
""".split())


def walked(path):
    return ast.walk(ast.parse(path.read_text()))


class Language(unittest.TestCase):
    def each(self, *kinds):
        for path in FILES:
            for node in walked(path):
                if isinstance(node, kinds):
                    yield path.name + ":" + str(getattr(node, "lineno", 0)), node

    def test_there_are_files_and_nothing_else(self):
        found = [path.name for path in PACKAGE.iterdir() if path.name != "__pycache__"]
        self.assertEqual(sorted(found), [path.name for path in FILES])
        self.assertIn("__init__.py", found)

    def test_signs_and_sizes(self):
        for path in FILES:
            text = path.read_bytes().decode("utf-8")
            self.assertEqual(sorted(set(re.findall("[^ -~\n]", text))), [], path.name)
            rows = text.split("\n")
            self.assertLessEqual(len(rows), 401, path.name)
            self.assertLessEqual(max([len(row) for row in rows]), 120, path.name)
            self.assertIsNone(NO_WORDS.search(text), path.name)
        for place, node in self.each(ast.FunctionDef):
            self.assertLessEqual(node.end_lineno - node.lineno + 1, 40, place)

    def test_only_these_statements_and_expressions(self):
        for place, node in self.each(ast.AST):
            self.assertIn(type(node).__name__, NODES, place)

    def test_constants(self):
        for place, node in self.each(ast.Constant):
            self.assertIn(type(node.value), (int, str, bool, type(None)), place)

    def test_imports_are_the_package_s_own(self):
        for place, node in self.each(ast.ImportFrom):
            self.assertEqual(node.level, 0, place)
            self.assertTrue(node.module.startswith("realsay."), place)
            self.assertNotIn("*", [alias.name for alias in node.names], place)

    def test_names(self):
        for place, node in self.each(ast.Name, ast.arg, ast.FunctionDef, ast.ClassDef):
            name = getattr(node, "id", None) or getattr(node, "arg", None) or node.name
            if name not in UNDERSCORED:
                self.assertRegex(name, "^[A-Za-z][A-Za-z0-9_]*$", place)
            self.assertNotIn(name, OTHER_BUILT_IN, place)
            if not isinstance(getattr(node, "ctx", None), ast.Load):
                self.assertNotIn(name, OWN_NAMES, place)

    def test_called_methods(self):
        own = set([node.name for place, node in self.each(ast.FunctionDef)])
        for place, node in self.each(ast.Call):
            if isinstance(node.func, ast.Attribute):
                self.assertIn(node.func.attr, METHODS | own, place)

    def test_one_target_and_no_else_behind_a_loop(self):
        for place, node in self.each(ast.Assign):
            self.assertEqual(len(node.targets), 1, place)
            self.assertNotIsInstance(node.targets[0], ast.Tuple, place)
        for place, node in self.each(ast.For, ast.While):
            self.assertEqual(node.orelse, [], place)

    def test_comprehensions_have_one_for(self):
        for place, node in self.each(ast.ListComp):
            self.assertEqual(len(node.generators), 1, place)
            self.assertLessEqual(len(node.generators[0].ifs), 1, place)

    def test_powers_have_a_written_exponent(self):
        for place, node in self.each(ast.BinOp, ast.AugAssign):
            if isinstance(node.op, ast.Pow):
                exponent = getattr(node, "right", None) or node.value
                self.assertIsInstance(exponent, ast.Constant, place)
                self.assertLessEqual(exponent.value, 64, place)

    def test_plain_parameters_and_no_decorator(self):
        for place, node in self.each(ast.FunctionDef, ast.ClassDef):
            self.assertEqual(node.decorator_list, [], place)
        for place, node in self.each(ast.arguments):
            self.assertEqual([node.vararg, node.kwarg, node.kwonlyargs, node.posonlyargs], [None, None, [], []], place)


if __name__ == "__main__":
    unittest.main()
