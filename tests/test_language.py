"""The program's own files keep to the small part of Python that they are held to.

This looks for what a file's form shows: foreign imports (a clock, chance, files), circles of imports,
statements and built-in names outside that part, the form of classes, and sizes.
"""

import ast
import builtins
import pathlib
import re
import unittest

PACKAGE = pathlib.Path(__file__).resolve().parent.parent / "onestep"
SOURCES = sorted(PACKAGE.rglob("*.py"))

STATEMENTS = (
    ast.FunctionDef, ast.ClassDef, ast.ImportFrom, ast.Assign, ast.AugAssign, ast.If, ast.While, ast.For,
    ast.Return, ast.Break, ast.Continue, ast.Pass, ast.Raise, ast.Try, ast.Expr,
)
EXPRESSIONS = (
    ast.BoolOp, ast.BinOp, ast.UnaryOp, ast.Lambda, ast.IfExp, ast.Dict, ast.Set, ast.ListComp, ast.Compare,
    ast.Call, ast.JoinedStr, ast.FormattedValue, ast.Constant, ast.Attribute, ast.Subscript, ast.Name,
    ast.List, ast.Tuple, ast.Slice,
)
BUILT_IN_NAMES = set(
    "len range enumerate zip min max sum abs sorted reversed int str bool list tuple dict set frozenset"
    " isinstance ord repr any all divmod Exception ValueError TypeError KeyError IndexError LookupError"
    " ZeroDivisionError ArithmeticError OverflowError RuntimeError NotImplementedError AttributeError"
    " StopIteration".split()
)
METHODS = set(
    "append clear copy count endswith extend find get index insert isalnum isalpha isdigit islower isspace"
    " isupper items join keys ljust lower lstrip partition pop remove replace reverse rfind rjust"
    " rpartition rsplit rstrip setdefault split splitlines startswith strip update upper values zfill"
    " bit_length".split()
)
CONSTANTS = ("None", "True", "False")
DUNDER_METHODS = {"__init__", "__eq__", "__repr__", "__str__", "__len__"}
WALKED_AT_ONCE = {"zip", "enumerate", "reversed", "range", "items", "keys", "values"}
WALKERS = {"list", "tuple", "dict", "sorted", "sum", "any", "all", "enumerate", "zip", "min", "max", "join"}
UNUSED_WORDS = re.compile(
    r"\b(type|typing|typing_extensions|enum|Enum|IntEnum|StrEnum|Flag|IntFlag|Generic|Protocol|ABC|ABCMeta"
    r"|namedtuple|NamedTuple|TypedDict|TYPE_CHECKING|abstractmethod)\b|dataclass|overload|contextmanager"
)


def name_of(path):
    return str(path.relative_to(PACKAGE.parent))


def all_nodes():
    for path in SOURCES:
        for node in ast.walk(ast.parse(path.read_text(encoding="ascii"))):
            yield path, node


def own_methods():
    return {node.name for _, node in all_nodes() if isinstance(node, ast.FunctionDef)}


def classes():
    return [node for _, node in all_nodes() if isinstance(node, ast.ClassDef)]


def values_of_objects():
    return {node.attr for _, node in all_nodes() if isinstance(node, ast.Attribute) and isinstance(node.ctx, ast.Store)}


def drawn_from(path):
    """The files of the package that this one draws from, straight."""
    rows = [node for node in ast.parse(path.read_text(encoding="ascii")).body if isinstance(node, ast.ImportFrom)]
    return [PACKAGE.parent / (row.module.replace(".", "/") + ".py") for row in rows]


def called_name(node):
    if not isinstance(node, ast.Call):
        return None
    return node.func.attr if isinstance(node.func, ast.Attribute) else getattr(node.func, "id", None)


def walked_in(node):
    """The parts of this node that it walks on the spot."""
    if isinstance(node, (ast.For, ast.comprehension)):
        return [node.iter]
    if called_name(node) in WALKERS:
        return node.args if called_name(node) == "zip" else node.args[:1]
    return []


def names_bound_in(node):
    if isinstance(node, ast.Name) and isinstance(node.ctx, ast.Store):
        return [node.id]
    if isinstance(node, ast.arg):
        return [node.arg]
    if isinstance(node, (ast.FunctionDef, ast.ClassDef)):
        return [node.name]
    return []


def is_refused_power(node):
    if not isinstance(node, ast.BinOp) or not isinstance(node.op, ast.Pow):
        return False
    exponent = node.right
    return not (isinstance(exponent, ast.Constant) and exponent.value in range(0, 65))


class Files(unittest.TestCase):
    def test_the_package_holds_plain_python_files_alone(self):
        self.assertIn(PACKAGE / "__init__.py", SOURCES)
        for path in PACKAGE.rglob("*"):
            if "__pycache__" not in path.parts and not path.is_dir():
                with self.subTest(path=name_of(path)):
                    self.assertRegex(path.name, r"\A([a-z][a-z0-9_]*|__init__|__main__)\.py\Z")

    def test_signs_words_and_sizes(self):
        for path in SOURCES:
            with self.subTest(path=name_of(path)):
                text = path.read_bytes().decode("ascii")
                self.assertRegex(text, r"\A[ -~\n]*\Z")
                self.assertIsNone(UNUSED_WORDS.search(text))
                self.assertLessEqual(len(text.splitlines()), 400)
                self.assertLessEqual(max(len(line) for line in text.splitlines()), 120)


class Nodes(unittest.TestCase):
    def check_none(self, is_wrong):
        wrong = [f"{name_of(path)}:{node.lineno}" for path, node in all_nodes() if is_wrong(node)]
        self.assertEqual(wrong, [])

    def test_imports_are_the_packages_own(self):
        self.check_none(lambda node: isinstance(node, ast.Import))
        self.check_none(
            lambda node: isinstance(node, ast.ImportFrom)
            and (node.level != 0 or not node.module.startswith("onestep.") or node.names[0].name == "*")
        )

    def test_statements_and_expressions(self):
        self.check_none(lambda node: isinstance(node, ast.stmt) and not isinstance(node, STATEMENTS))
        self.check_none(lambda node: isinstance(node, ast.expr) and not isinstance(node, EXPRESSIONS))
        self.check_none(lambda node: isinstance(node, (ast.For, ast.While)) and node.orelse)
        self.check_none(lambda node: isinstance(node, ast.Try) and node.finalbody)
        self.check_none(lambda node: isinstance(node, ast.BinOp) and isinstance(node.op, ast.Div))
        self.check_none(lambda node: isinstance(node, ast.Constant) and isinstance(node.value, (float, bytes, complex)))
        self.check_none(lambda node: isinstance(node, ast.Assign) and len(node.targets) != 1)
        self.check_none(is_refused_power)

    def test_is_stands_beside_none_true_and_false(self):
        self.check_none(
            lambda node: isinstance(node, ast.Compare)
            and any(isinstance(sign, (ast.Is, ast.IsNot)) for sign in node.ops)
            and not all(isinstance(side, ast.Constant) and str(side.value) in CONSTANTS for side in node.comparators)
        )

    def test_names(self):
        outside = set(dir(builtins)) - BUILT_IN_NAMES
        self.check_none(lambda node: isinstance(node, ast.Name) and node.id in outside)
        self.check_none(lambda node: any(name in dir(builtins) for name in names_bound_in(node)))
        self.check_none(
            lambda node: any(name.startswith("_") and name not in DUNDER_METHODS for name in names_bound_in(node))
        )

    def test_methods(self):
        known = METHODS | own_methods()
        self.check_none(
            lambda node: isinstance(node, ast.Call)
            and isinstance(node.func, ast.Attribute)
            and node.func.attr not in known
        )

    def test_comprehensions_have_one_walk(self):
        self.check_none(
            lambda node: isinstance(node, ast.ListComp)
            and (len(node.generators) != 1 or len(node.generators[0].ifs) > 1)
        )

    def test_what_is_walked_at_once_is_not_kept(self):
        for path in SOURCES:
            nodes = list(ast.walk(ast.parse(path.read_text(encoding="ascii"))))
            walked = {id(part) for node in nodes for part in walked_in(node)}
            for node in nodes:
                if called_name(node) in WALKED_AT_ONCE:
                    with self.subTest(path=name_of(path), line=node.lineno):
                        self.assertIn(id(node), walked)

    def test_functions_are_small_and_plain(self):
        functions = [node for _, node in all_nodes() if isinstance(node, ast.FunctionDef)]
        self.assertTrue(functions)
        for node in functions:
            with self.subTest(function=node.name):
                self.assertLessEqual(node.end_lineno - node.lineno + 1, 40)
                self.assertEqual(node.decorator_list, [])
                asked = node.args
                self.assertEqual([asked.vararg, asked.kwarg, asked.kwonlyargs, asked.posonlyargs], [None, None, [], []])


class Modules(unittest.TestCase):
    def test_the_top_of_a_file_binds_each_name_once(self):
        for path in SOURCES:
            with self.subTest(path=name_of(path)):
                names = []
                for k, row in enumerate(ast.parse(path.read_text(encoding="ascii")).body):
                    if isinstance(row, ast.ImportFrom):
                        names += [asked.asname or asked.name for asked in row.names]
                    elif isinstance(row, ast.Assign):
                        names += names_bound_in(row.targets[0])
                    elif isinstance(row, (ast.FunctionDef, ast.ClassDef)):
                        names.append(row.name)
                    else:
                        self.assertTrue(k == 0 and isinstance(row, ast.Expr) and isinstance(row.value, ast.Constant))
                self.assertEqual(len(names), len(set(names)))

    def test_no_files_draw_from_one_another(self):
        for path in SOURCES:
            with self.subTest(path=name_of(path)):
                reached = drawn_from(path)
                for other in reached:
                    self.assertIn(other, SOURCES)
                    reached += [one for one in drawn_from(other) if one not in reached]
                self.assertNotIn(path, reached)


class Classes(unittest.TestCase):
    def test_classes_hold_methods_alone(self):
        for node in classes():
            with self.subTest(name=node.name):
                self.assertLessEqual(len(node.bases), 1)
                self.assertEqual([node.keywords, node.decorator_list], [[], []])
                methods = [part.name for part in node.body if isinstance(part, ast.FunctionDef)]
                self.assertTrue(all(isinstance(part, (ast.FunctionDef, ast.Pass)) for part in node.body))
                self.assertEqual(len(methods), len(set(methods)))

    def test_no_name_is_a_method_and_a_value(self):
        methods = {part.name for node in classes() for part in node.body if isinstance(part, ast.FunctionDef)}
        self.assertEqual(methods & values_of_objects(), set())
        own = dir(str) + dir(int) + dir(list) + dir(dict) + dir(set) + dir(bytes)
        self.assertEqual((methods - DUNDER_METHODS | values_of_objects()) & set(own), set())


if __name__ == "__main__":
    unittest.main()
