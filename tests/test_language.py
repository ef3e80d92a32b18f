"""The package keeps to the small part of the language; each test bears the rule's number."""

import ast
import builtins
import pathlib
import re
import unittest

PACKAGE = pathlib.Path(__file__).resolve().parent.parent / "tapeproof"

STATEMENTS = (
    ast.Assign, ast.AugAssign, ast.AnnAssign, ast.If, ast.While, ast.For, ast.Return, ast.Break, ast.Continue,
    ast.Pass, ast.Raise, ast.Try, ast.Expr, ast.FunctionDef, ast.ClassDef, ast.ImportFrom,
)
NOT_EXPRESSIONS = (
    ast.SetComp, ast.DictComp, ast.GeneratorExp, ast.NamedExpr, ast.Starred, ast.Await, ast.Yield, ast.YieldFrom,
    ast.Div, ast.MatMult,
)
OWN_NAMES = set(
    "len range enumerate zip min max sum abs sorted reversed int str bool list tuple dict set frozenset isinstance ord"
    " repr any all divmod Exception ValueError TypeError KeyError IndexError LookupError ZeroDivisionError"
    " ArithmeticError OverflowError RuntimeError NotImplementedError AttributeError StopIteration".split()
)
METHODS = set(
    "append clear copy count endswith extend find get index insert isalnum isalpha isdigit islower isspace isupper"
    " items join keys ljust lower lstrip partition pop remove replace reverse rfind rjust rpartition rsplit rstrip"
    " setdefault split splitlines startswith strip update upper values zfill bit_length".split()
)
DOUBLE = {"__init__", "__eq__", "__repr__", "__str__", "__len__"}
NEVER_NAMES = {"register", "mro", "elements", "open", "input", "version_info", "with_traceback", "add_note"}
NEVER_WORDS = (
    "type typing typing_extensions enum Enum IntEnum StrEnum Flag IntFlag Generic Protocol ABC ABCMeta namedtuple"
    " NamedTuple TypedDict TYPE_CHECKING abstractmethod".split()
)
NEVER_WITHIN = ("dataclass", "overload", "contextmanager")
WALKED = {"zip", "enumerate", "reversed", "range"}
WALKERS = {"list", "tuple", "dict", "sorted", "sum", "any", "all", "enumerate", "zip", "min", "max"}


def sources():
    return {path: path.read_text(encoding="utf-8") for path in sorted(PACKAGE.rglob("*.py"))}


def trees():
    return {path: ast.parse(text) for path, text in sources().items()}


def nodes():
    return [(path, node) for path, tree in trees().items() for node in ast.walk(tree)]


def bound_names(node):
    """The names that a node gives a value to, with those of its parameters."""
    names = []
    for inner in ast.walk(node):
        if isinstance(inner, ast.Name) and isinstance(inner.ctx, ast.Store):
            names.append(inner.id)
        elif isinstance(inner, ast.arg):
            names.append(inner.arg)
        elif isinstance(inner, ast.ExceptHandler) and inner.name:
            names.append(inner.name)
    return names


def imported_names(tree):
    return [alias.name for node in tree.body if isinstance(node, ast.ImportFrom) for alias in node.names]


def defined_names(tree):
    names = [node.name for node in tree.body if isinstance(node, (ast.FunctionDef, ast.ClassDef))]
    for node in tree.body:
        if isinstance(node, ast.Assign):
            names += bound_names(node)
    return names


class Files(unittest.TestCase):
    def test_l1_l14_only_plain_files(self):
        for path in PACKAGE.rglob("*"):
            if "__pycache__" in path.parts:
                continue
            if path.is_dir():
                self.assertTrue((path / "__init__.py").is_file(), path)
                continue
            self.assertRegex(path.name, r"^([a-z][a-z0-9_]*|__init__|__main__)\.py$")
            self.assertFalse(path.stem in dir(builtins) or path.stem.startswith(("test", "site", "conftest")), path)

    def test_l10_l14_sizes_and_signs(self):
        for path, text in sources().items():
            rows = text.split("\n")
            self.assertLessEqual(len(rows), 400, path)
            self.assertLessEqual(max(len(row) for row in rows), 120, path)
            self.assertTrue(all(sign == "\n" or " " <= sign <= "~" for sign in text), path)

    def test_l10_functions_of_at_most_forty_lines(self):
        for path, node in nodes():
            if isinstance(node, ast.FunctionDef):
                self.assertLessEqual(node.end_lineno - node.lineno + 1, 40, (path, node.name))

    def test_l17_words_that_stand_nowhere(self):
        for path, text in sources().items():
            words = re.findall(r"[A-Za-z0-9_]+", text)
            self.assertEqual([word for word in words if word in NEVER_WORDS], [], path)
            self.assertEqual([word for word in NEVER_WITHIN if word in text], [], path)


class Imports(unittest.TestCase):
    def test_l2_l16_own_modules_by_their_full_names(self):
        for path, node in nodes():
            self.assertNotIsInstance(node, ast.Import, path)
            if isinstance(node, ast.ImportFrom):
                self.assertEqual(node.level, 0, path)
                self.assertRegex(node.module, r"^tapeproof\.[a-z][a-z0-9_]*$")
                self.assertTrue(all(alias.asname is None and alias.name != "*" for alias in node.names), path)
                source = trees()[PACKAGE / (node.module.split(".")[1] + ".py")]
                for alias in node.names:
                    self.assertIn(alias.name, defined_names(source), path)

    def test_l16_no_two_files_draw_from_one_another(self):
        drawn = {
            path.stem: [node.module.split(".")[1] for node in tree.body if isinstance(node, ast.ImportFrom)]
            for path, tree in trees().items()
        }
        while drawn:
            free = [name for name, needed in drawn.items() if not any(other in drawn for other in needed)]
            self.assertNotEqual(free, [], drawn)
            drawn = {name: needed for name, needed in drawn.items() if name not in free}


class Statements(unittest.TestCase):
    def test_l3_l15_the_top_of_a_module(self):
        for path, tree in trees().items():
            self.assertIsNotNone(ast.get_docstring(tree), path)
            for node in tree.body[1:]:
                self.assertIsInstance(node, (ast.ImportFrom, ast.FunctionDef, ast.ClassDef, ast.Assign), path)
            names = defined_names(tree) + imported_names(tree)
            self.assertEqual(len(set(names)), len(names), path)

    def test_l4_plain_parameters_and_no_decorator(self):
        for path, node in nodes():
            if isinstance(node, ast.arguments):
                self.assertFalse(node.vararg or node.kwarg or node.kwonlyargs or node.posonlyargs, path)
            if isinstance(node, (ast.FunctionDef, ast.ClassDef)):
                self.assertEqual(node.decorator_list, [], path)

    def test_l5_l18_classes(self):
        for path, node in nodes():
            if isinstance(node, ast.ClassDef):
                self.assertLessEqual(len(node.bases), 1, path)
                for inner in node.body:
                    self.assertIsInstance(inner, (ast.FunctionDef, ast.Pass), (path, node.name))

    def test_l6_statements(self):
        for path, node in nodes():
            if isinstance(node, ast.stmt):
                self.assertIsInstance(node, STATEMENTS, path)
            if isinstance(node, ast.Assign):
                self.assertEqual(len(node.targets), 1, path)
                self.assertNotIsInstance(node.targets[0], (ast.Tuple, ast.List), (path, node.lineno))
            if isinstance(node, (ast.For, ast.While)):
                self.assertEqual(node.orelse, [], path)
            if isinstance(node, ast.Try):
                self.assertEqual(node.finalbody, [], path)
            if isinstance(node, ast.Expr):
                self.assertTrue(
                    isinstance(node.value, ast.Call) or isinstance(node.value.value, str), (path, node.lineno)
                )

    def test_l19_errors_are_made_on_the_spot_and_taken_by_name(self):
        for path, node in nodes():
            if isinstance(node, ast.Raise):
                self.assertIsInstance(node.exc, ast.Call, (path, node.lineno))
            if isinstance(node, ast.ExceptHandler):
                self.assertIsNotNone(node.type, (path, node.lineno))
                self.assertNotIn(ast.unparse(node.type), ("Exception", "TypeError"), (path, node.lineno))


class Expressions(unittest.TestCase):
    def test_l7_l27_values(self):
        for path, node in nodes():
            self.assertNotIsInstance(node, NOT_EXPRESSIONS, path)
            if isinstance(node, ast.Constant):
                self.assertIsInstance(node.value, (int, str, type(None)), path)
                self.assertNotIn("%", str(node.value), (path, node.lineno))
            if isinstance(node, ast.ListComp):
                self.assertEqual(len(node.generators), 1, (path, node.lineno))
                self.assertLessEqual(len(node.generators[0].ifs), 1, (path, node.lineno))
            if isinstance(node, ast.BinOp) and isinstance(node.op, ast.Pow):
                self.assertIsInstance(node.right, ast.Constant, (path, node.lineno))

    def test_l8_l12_l17_names(self):
        for path, node in nodes():
            name = {
                ast.Name: "id", ast.Attribute: "attr", ast.FunctionDef: "name", ast.ClassDef: "name", ast.arg: "arg",
            }
            if type(node) in name:
                said = getattr(node, name[type(node)])
                self.assertTrue(said in DOUBLE or not said.startswith("_"), (path, said))
                self.assertNotIn(said, NEVER_NAMES, path)
            if isinstance(node, ast.Name) and node.id in dir(builtins):
                self.assertIn(node.id, OWN_NAMES, (path, node.lineno))

    def test_l15_no_local_is_called_like_something_else(self):
        for path, tree in trees().items():
            taken = set(dir(builtins)) | set(imported_names(tree))
            taken |= {node.name for node in tree.body if isinstance(node, ast.ClassDef)}
            for node in ast.walk(tree):
                if isinstance(node, ast.FunctionDef):
                    self.assertEqual(taken & set(bound_names(node)), set(), (path, node.name))

    def test_l20_is_beside_none_true_and_false_alone(self):
        for path, node in nodes():
            if isinstance(node, ast.Compare):
                for operator, other in zip(node.ops, node.comparators):
                    if isinstance(operator, (ast.Is, ast.IsNot)):
                        self.assertIn(ast.unparse(other), ("None", "True", "False"), (path, node.lineno))

    def test_l21_no_annotations(self):
        for path, node in nodes():
            self.assertNotIsInstance(node, ast.AnnAssign, path)
            if isinstance(node, ast.arg):
                self.assertIsNone(node.annotation, path)
            if isinstance(node, ast.FunctionDef):
                self.assertIsNone(node.returns, path)

    def test_l23_walked_on_the_spot(self):
        for path, tree in trees().items():
            spots = []
            for node in ast.walk(tree):
                if isinstance(node, (ast.For, ast.comprehension)):
                    spots.append(node.iter)
                if isinstance(node, ast.Call) and isinstance(node.func, ast.Name) and node.func.id in WALKERS:
                    spots += node.args
            for node in ast.walk(tree):
                if isinstance(node, ast.Call) and isinstance(node.func, ast.Name) and node.func.id in WALKED:
                    self.assertTrue(any(node is spot for spot in spots), (path, node.lineno))

    def test_l24_no_set_is_kept(self):
        for path, node in nodes():
            if isinstance(node, ast.Assign):
                self.assertNotIsInstance(node.value, ast.Set, path)
                self.assertFalse(ast.unparse(node.value).startswith(("set(", "frozenset(")), (path, node.lineno))

    def test_l18_l25_l26_methods_and_values(self):
        methods = set()
        values = set()
        for path, node in nodes():
            if isinstance(node, ast.ClassDef):
                methods |= {inner.name for inner in node.body if isinstance(inner, ast.FunctionDef)}
            if isinstance(node, ast.Attribute) and isinstance(node.ctx, ast.Store):
                values.add(node.attr)
        self.assertEqual(methods & values, set())
        python_own = set(dir("")) | set(dir(0)) | set(dir([])) | set(dir({})) | set(dir(set())) | set(dir(b""))
        self.assertEqual((methods | values) & (python_own - DOUBLE), set())
        for path, node in nodes():
            if isinstance(node, ast.Call) and isinstance(node.func, ast.Attribute):
                self.assertIn(node.func.attr, METHODS | methods, (path, node.lineno))


if __name__ == "__main__":
    unittest.main()
