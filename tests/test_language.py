"""The package keeps to the part of Python that it is written in, as far as its files show it."""

import ast
import pathlib
import re
import unittest

PACKAGE = pathlib.Path(__file__).resolve().parent.parent / "realsay"
FILES = sorted(PACKAGE.glob("*.py"))

OWN_NAMES = set("""
len range enumerate zip min max sum abs sorted reversed int str bool list tuple dict set frozenset isinstance
ord repr any all divmod Exception ValueError TypeError KeyError IndexError LookupError ZeroDivisionError
ArithmeticError OverflowError RuntimeError NotImplementedError AttributeError StopIteration
""".split())
OTHER_BUILT_IN = set(dir(__builtins__) if not isinstance(__builtins__, dict) else __builtins__) - OWN_NAMES
METHODS = set("""
append clear copy count endswith extend find get index insert isalnum isalpha isdigit islower isspace isupper
items join keys ljust lower lstrip partition pop remove replace reverse rfind rjust rpartition rsplit rstrip
setdefault split splitlines startswith strip update upper values zfill bit_length
""".split())
UNDERSCORED = {"__init__", "__eq__", "__repr__", "__str__", "__len__"}
NO_WORDS = re.compile(r"""\b(type|typing|typing_extensions|enum|Enum|IntEnum|StrEnum|Flag|IntFlag|Generic|Protocol
|ABC|ABCMeta|namedtuple|NamedTuple|TypedDict|TYPE_CHECKING|abstractmethod)\b|dataclass|overload|contextmanager""",
                      re.VERBOSE)
NODES = set("""
Module ImportFrom alias FunctionDef ClassDef arguments arg Return Assign AugAssign For While If Raise Try
ExceptHandler Expr Pass Break Continue Lambda BoolOp BinOp UnaryOp IfExp Dict Set List Tuple ListComp
comprehension Compare Call keyword JoinedStr FormattedValue Constant Attribute Subscript Slice Name Load Store
And Or Not Add Sub Mult FloorDiv Mod Pow LShift RShift BitOr BitXor BitAnd Invert UAdd USub
Eq NotEq Lt LtE Gt GtE Is IsNot In NotIn
""".split())


NO_NAMES = set("""
register mro elements open input version_info with_traceback add_note format format_map attrgetter breakpoint
builtins compile copyright credits delattr dir eval exec exit gc getattr globals hasattr help id importlib license
locals methodcaller os quit setattr super type vars sys
""".split())
# What Python's own values have as methods and values: an object's own may be called so only where L26 lists it.
TAKEN = set(sum([dir(kind) for kind in (str, int, list, tuple, dict, set, frozenset, bytes)], []))
FREE_METHODS = METHODS | {"add", "discard"} | UNDERSCORED
FREE_VALUES = set("count index title find get join lower upper split strip copy add".split())
WALKED = set("zip enumerate reversed range items keys values".split())
WALKING = set("list tuple dict sorted sum any all enumerate zip min max join".split())


def walked(path):
    return ast.walk(ast.parse(path.read_text()))


def top_names(path):
    """What a file binds at its top, in its order, but what it draws from other files."""
    names = []
    for node in ast.parse(path.read_text()).body:
        if isinstance(node, (ast.FunctionDef, ast.ClassDef)):
            names.append(node.name)
        elif isinstance(node, ast.Assign):
            names.append(node.targets[0].id)
    return names


def imported(path):
    """The pairs (file, name) that a file draws."""
    found = []
    for node in walked(path):
        if isinstance(node, ast.ImportFrom):
            found.extend([(node.module, alias.asname or alias.name) for alias in node.names])
    return found


def called(node):
    """The name by which a call calls, None where it is no call."""
    if not isinstance(node, ast.Call):
        return None
    return node.func.attr if isinstance(node.func, ast.Attribute) else getattr(node.func, "id", None)


class Language(unittest.TestCase):
    def each(self, *kinds):
        for path in FILES:
            for node in walked(path):
                if isinstance(node, kinds):
                    yield path.name + ":" + str(getattr(node, "lineno", 0)), node

    def test_there_are_files_and_nothing_else(self):
        found = [path.name for path in PACKAGE.iterdir() if path.name != "__pycache__"]
        self.assertEqual(sorted(found), [path.name for path in FILES])
        self.assertIn("__init__.py", found)

    def test_signs_and_sizes(self):
        for path in FILES:
            text = path.read_bytes().decode("utf-8")
            self.assertEqual(sorted(set(re.findall("[^ -~\n]", text))), [], path.name)
            rows = text.split("\n")
            self.assertLessEqual(len(rows), 401, path.name)
            self.assertLessEqual(max([len(row) for row in rows]), 120, path.name)
            self.assertIsNone(NO_WORDS.search(text), path.name)
        for place, node in self.each(ast.FunctionDef):
            self.assertLessEqual(node.end_lineno - node.lineno + 1, 40, place)

    def test_only_these_statements_and_expressions(self):
        for place, node in self.each(ast.AST):
            self.assertIn(type(node).__name__, NODES, place)

    def test_constants(self):
        for place, node in self.each(ast.Constant):
            self.assertIn(type(node.value), (int, str, bool, type(None)), place)

    def test_imports_are_the_package_s_own(self):
        for place, node in self.each(ast.ImportFrom):
            self.assertEqual(node.level, 0, place)
            self.assertTrue(node.module.startswith("realsay."), place)
            self.assertNotIn("*", [alias.name for alias in node.names], place)

    def test_names(self):
        for place, node in self.each(ast.Name, ast.arg, ast.FunctionDef, ast.ClassDef):
            name = getattr(node, "id", None) or getattr(node, "arg", None) or node.name
            if name not in UNDERSCORED:
                self.assertRegex(name, "^[A-Za-z][A-Za-z0-9_]*$", place)
            self.assertNotIn(name, OTHER_BUILT_IN, place)
            if not isinstance(getattr(node, "ctx", None), ast.Load):
                self.assertNotIn(name, OWN_NAMES, place)

    def test_called_methods(self):
        own = set([node.name for place, node in self.each(ast.FunctionDef)])
        for place, node in self.each(ast.Call):
            if isinstance(node.func, ast.Attribute):
                self.assertIn(node.func.attr, METHODS | own, place)

    def test_one_target_and_no_else_behind_a_loop(self):
        for place, node in self.each(ast.Assign):
            self.assertEqual(len(node.targets), 1, place)
            self.assertNotIsInstance(node.targets[0], ast.Tuple, place)
        for place, node in self.each(ast.For, ast.While):
            self.assertEqual(node.orelse, [], place)

    def test_comprehensions_have_one_for(self):
        for place, node in self.each(ast.ListComp):
            self.assertEqual(len(node.generators), 1, place)
            self.assertLessEqual(len(node.generators[0].ifs), 1, place)

    def test_powers_have_a_written_exponent(self):
        for place, node in self.each(ast.BinOp, ast.AugAssign):
            if isinstance(node.op, ast.Pow):
                exponent = getattr(node, "right", None) or node.value
                self.assertIsInstance(exponent, ast.Constant, place)
                self.assertLessEqual(exponent.value, 64, place)

    def test_plain_parameters_and_no_decorator(self):
        for place, node in self.each(ast.FunctionDef, ast.ClassDef):
            self.assertEqual(node.decorator_list, [], place)
        for place, node in self.each(ast.arguments):
            self.assertEqual([node.vararg, node.kwarg, node.kwonlyargs, node.posonlyargs], [None, None, [], []], place)

    def test_names_that_are_not_used(self):
        for place, node in self.each(ast.Name, ast.arg, ast.FunctionDef, ast.ClassDef, ast.Attribute):
            for field in ("id", "arg", "name", "attr"):
                self.assertNotIn(getattr(node, field, None), NO_NAMES, place)

    def test_each_name_is_bound_once_at_the_top(self):
        for path in FILES:
            names = top_names(path) + [name for module, name in imported(path)]
            self.assertEqual(len(set(names)), len(names), path.name)

    def test_values_of_the_top_are_plain(self):
        plain = (ast.Assign, ast.Name, ast.Store, ast.Constant, ast.List, ast.Tuple, ast.Dict, ast.UnaryOp, ast.USub,
                 ast.Load)
        at_top = (ast.Expr, ast.ImportFrom, ast.FunctionDef, ast.ClassDef, ast.Assign)
        for path in FILES:
            for node in ast.parse(path.read_text()).body:
                place = path.name + ":" + str(node.lineno)
                self.assertIsInstance(node, at_top, place)
                if isinstance(node, ast.Assign):
                    for inner in ast.walk(node):
                        self.assertIsInstance(inner, plain, place)
                    held = [inner for inner in ast.walk(node) if isinstance(inner, (ast.List, ast.Dict))]
                    self.assertTrue(held in ([], [node.value]), place)

    def test_no_local_is_called_like_an_import_or_a_class(self):
        for path in FILES:
            classes = [node.name for node in walked(path) if isinstance(node, ast.ClassDef)]
            taken = set(classes + [name for module, name in imported(path)])
            for node in walked(path):
                place = path.name + ":" + str(getattr(node, "lineno", 0))
                if isinstance(node, ast.arg):
                    self.assertNotIn(node.arg, taken, place)
                if isinstance(node, ast.Name) and isinstance(node.ctx, ast.Store):
                    self.assertNotIn(node.id, taken, place)

    def test_names_are_drawn_from_the_file_that_defines_them(self):
        for path in FILES:
            for module, name in imported(path):
                self.assertIn(name, top_names(PACKAGE / (module.split(".")[1] + ".py")), path.name)

    def test_no_two_files_draw_from_one_another(self):
        drawn = {path.stem: set([module.split(".")[1] for module, name in imported(path)]) for path in FILES}
        while drawn:
            last = [stem for stem in drawn if not drawn[stem] & set(drawn)]
            self.assertNotEqual(last, [], drawn)
            drawn = {stem: drawn[stem] for stem in drawn if stem not in last}

    def test_own_methods_and_values(self):
        methods, values = set(), set()
        for place, node in self.each(ast.ClassDef):
            self.assertEqual([inner for inner in node.body if not isinstance(inner, (ast.FunctionDef, ast.Pass))], [])
            names = [inner.name for inner in node.body if isinstance(inner, ast.FunctionDef)]
            self.assertEqual(len(set(names)), len(names), place)
            methods |= set(names)
        for place, node in self.each(ast.Attribute):
            if isinstance(node.ctx, ast.Store):
                values.add(node.attr)
        self.assertEqual(methods & values, set())
        self.assertEqual(methods & TAKEN - FREE_METHODS, set())
        self.assertEqual(values & (TAKEN | {"args"}) - FREE_VALUES, set())

    def test_is_stands_beside_none_true_and_false(self):
        for place, node in self.each(ast.Compare):
            if any([isinstance(op, (ast.Is, ast.IsNot)) for op in node.ops]):
                beside = [side for side in [node.left] + node.comparators if isinstance(side, ast.Constant)]
                self.assertTrue([side for side in beside if side.value in (None, True, False)], place)

    def test_walked_at_once(self):
        """zip and its like stand straight behind the in of a loop or as the first thing in what walks them."""
        for path in FILES:
            walking = set()
            for node in walked(path):
                if isinstance(node, (ast.For, ast.comprehension)):
                    walking.add(node.iter)
                elif called(node) in WALKING:
                    walking |= set(node.args if called(node) == "zip" else node.args[:1])
            for node in walked(path):
                if called(node) in WALKED:
                    self.assertIn(ast.dump(node), [ast.dump(inner) for inner in walking], path.name)

    def test_no_set_is_kept(self):
        for place, node in self.each(ast.Set):
            self.fail(place)
        for place, node in self.each(ast.Call):
            self.assertNotIn(called(node), ("set", "frozenset", "chr"), place)

    def test_errors_are_made_on_the_spot_and_none_is_taken(self):
        for place, node in self.each(ast.Raise):
            self.assertIsInstance(node.exc, ast.Call, place)
            self.assertIsNone(node.cause, place)
        for place, node in self.each(ast.Try):
            self.fail(place)

    def test_keywords(self):
        allowed = {"sorted": {"key", "reverse"}, "min": {"key", "default"}, "max": {"key", "default"}, "sum": {"start"},
                   "enumerate": {"start"}, "zip": {"strict"}}
        for place, node in self.each(ast.Call):
            given = set([keyword.arg for keyword in node.keywords])
            self.assertLessEqual(given, allowed.get(called(node), set()), place)

    def test_init_gives_nothing_back(self):
        for place, node in self.each(ast.FunctionDef):
            if node.name == "__init__":
                self.assertEqual([inner for inner in ast.walk(node) if isinstance(inner, ast.Return)], [], place)
            else:
                self.assertNotIn(node.name, UNDERSCORED, place)

    def test_lists_and_dicts_of_the_top_are_only_read(self):
        """They stand before an index or behind in, in their own file alone."""
        for path in FILES:
            tree = ast.parse(path.read_text())
            kept = [node.targets[0].id for node in tree.body
                    if isinstance(node, ast.Assign) and isinstance(node.value, (ast.List, ast.Dict))]
            read = []
            for node in ast.walk(tree):
                if isinstance(node, ast.Subscript) and isinstance(node.ctx, ast.Load):
                    read.append(node.value)
                if isinstance(node, ast.Compare) and isinstance(node.ops[0], (ast.In, ast.NotIn)):
                    read.append(node.comparators[0])
            for node in ast.walk(tree):
                if isinstance(node, ast.Name) and isinstance(node.ctx, ast.Load) and node.id in kept:
                    self.assertTrue(any([node is inner for inner in read]), path.name + ":" + str(node.lineno))
            for other in FILES:
                self.assertEqual([name for module, name in imported(other)
                                  if module == "realsay." + path.stem and name in kept], [], other.name)

    def test_texts_have_no_percent_sign(self):
        for place, node in self.each(ast.Constant):
            if isinstance(node.value, str):
                self.assertNotIn("%", node.value, place)


if __name__ == "__main__":
    unittest.main()
