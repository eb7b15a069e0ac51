"""Holds the package to those rules of the language that are plainly seen in the code; not to all of them."""

import ast
import builtins
import pathlib
import re
import unittest

PACKAGE = pathlib.Path(__file__).resolve().parent.parent / "sealchain"
FILES = sorted(PACKAGE.rglob("*.py"))

STATEMENTS = (
    ast.Assign, ast.AugAssign, ast.If, ast.While, ast.For, ast.Return, ast.Break, ast.Continue, ast.Pass, ast.Raise,
    ast.Try, ast.Expr, ast.FunctionDef, ast.ClassDef, ast.ImportFrom,
)
EXPRESSIONS = (
    ast.Constant, ast.Name, ast.List, ast.Tuple, ast.Dict, ast.Set, ast.BinOp, ast.UnaryOp, ast.BoolOp, ast.Compare,
    ast.IfExp, ast.Call, ast.Attribute, ast.Subscript, ast.Slice, ast.ListComp, ast.JoinedStr, ast.FormattedValue,
    ast.Lambda,
)
OWN_NAMES = """len range enumerate zip min max sum abs sorted reversed int str bool list tuple dict set frozenset
    isinstance ord repr any all divmod Exception ValueError TypeError KeyError IndexError LookupError ZeroDivisionError
    ArithmeticError OverflowError RuntimeError NotImplementedError AttributeError StopIteration""".split()
METHODS = """append clear copy count endswith extend find get index insert isalnum isalpha isdigit islower isspace
    isupper items join keys ljust lower lstrip partition pop remove replace reverse rfind rjust rpartition rsplit rstrip
    setdefault split splitlines startswith strip update upper values zfill bit_length __init__""".split()
NOT_USED = """register mro elements open input version_info with_traceback add_note attrgetter breakpoint builtins
    compile copyright credits delattr dir eval exec exit gc getattr globals hasattr help id importlib license locals
    methodcaller os quit setattr super type vars sys format format_map""".split()
NO_WORDS = """type typing typing_extensions enum Enum IntEnum StrEnum Flag IntFlag Generic Protocol ABC ABCMeta
    namedtuple NamedTuple TypedDict TYPE_CHECKING abstractmethod""".split()
SPECIAL_METHODS = ("__init__", "__eq__", "__repr__", "__str__", "__len__")
WALKED_NAMES = ("zip", "enumerate", "reversed", "range")
WALKED_METHODS = ("items", "keys", "values")
WALKERS = ("list", "tuple", "dict", "sorted", "sum", "any", "all", "enumerate", "zip", "min", "max")
CHANGERS = ("append", "clear", "extend", "insert", "pop", "remove", "reverse", "setdefault", "update")
NO_VALUES = CHANGERS + ("items", "keys", "values", "sort", "args", "encode", "format")
KINDS = ("int", "str", "bool", "list", "tuple", "dict")
ASKED = (ast.In, ast.NotIn, ast.Eq, ast.NotEq)
KEYWORDS = {
    "sorted": ("key", "reverse"), "min": ("key", "default"), "max": ("key", "default"), "sum": ("start",),
    "enumerate": ("start",), "zip": ("strict",),
}


def tree_of(path):
    return ast.parse(path.read_text())


def parts_of(tree, kind):
    return [node for node in ast.walk(tree) if isinstance(node, kind)]


def parents_in(tree):
    return {child: node for node in ast.walk(tree) for child in ast.iter_child_nodes(node)}


def called(node):
    """The name of what is called by itself, None of anything else."""
    return node.func.id if isinstance(node, ast.Call) and isinstance(node.func, ast.Name) else None


def bound_in(function):
    """The names of a function's parameters and locals."""
    names = [each.arg for each in parts_of(function, ast.arg)]
    return names + [node.id for node in parts_of(function, ast.Name) if isinstance(node.ctx, ast.Store)]


def top_names(tree):
    names = [node.name for node in tree.body if isinstance(node, (ast.FunctionDef, ast.ClassDef))]
    for node in tree.body:
        if isinstance(node, ast.Assign):
            names.extend(target.id for target in node.targets)
    return names


def imported(tree):
    return [each.name for node in parts_of(tree, ast.ImportFrom) for each in node.names]


class TestFiles(unittest.TestCase):
    def test_only_plain_files_lie_in_the_package(self):
        self.assertTrue((PACKAGE / "__init__.py").is_file())
        for path in PACKAGE.rglob("*"):
            if "__pycache__" not in path.parts:
                self.assertRegex(path.name, r"\A[a-z_][a-z0-9_]*\.py\Z")
                self.assertNotRegex(path.name, r"\A(tests?|testing|test_.*|site|conftest|.*customize)\.py\Z")
                self.assertNotIn(path.stem, dir(builtins))

    def test_signs_and_sizes(self):
        for path in FILES:
            text = path.read_bytes().decode("ascii")
            self.assertEqual([sign for sign in text if sign != "\n" and not " " <= sign <= "~"], [], path)
            lines = text.split("\n")
            self.assertLessEqual(len(lines) - 1, 400, path)
            self.assertLessEqual(max(len(line) for line in lines), 120, path)
            for node in parts_of(tree_of(path), ast.FunctionDef):
                self.assertLessEqual(node.end_lineno - node.lineno + 1, 40, node.name)

    def test_words_that_stand_nowhere(self):
        for path in FILES:
            text = path.read_text()
            self.assertEqual([word for word in re.findall(r"\w+", text) if word in NO_WORDS], [], path)
            self.assertNotRegex(text, "dataclass|overload|contextmanager")


class TestImports(unittest.TestCase):
    def test_imports_name_the_file_that_defines(self):
        for path in FILES:
            tree = tree_of(path)
            for node in parts_of(tree, ast.ImportFrom):
                self.assertIn(node, tree.body)
                self.assertEqual(node.level, 0)
                package, dot, module = node.module.partition(".")
                self.assertEqual((package, dot), ("sealchain", "."))
                defined = top_names(tree_of(PACKAGE / (module + ".py")))
                for each in node.names:
                    self.assertIn(each.name, defined)
                    self.assertIsNone(each.asname)

    def test_no_two_files_draw_from_one_another(self):
        drawn = {path.stem: [node.module.partition(".")[2] for node in parts_of(tree_of(path), ast.ImportFrom)]
                 for path in FILES}
        while drawn:
            free = [name for name in drawn if not set(drawn[name]) & set(drawn)]
            self.assertTrue(free, drawn)
            for name in free:
                del drawn[name]


class TestForms(unittest.TestCase):
    def test_statements(self):
        for path in FILES:
            tree = tree_of(path)
            for node in parts_of(tree, ast.stmt):
                self.assertIsInstance(node, STATEMENTS, (path, node.lineno))
                if isinstance(node, ast.Expr) and node != tree.body[0]:
                    self.assertIsInstance(node.value, ast.Call, (path, node.lineno))
                if isinstance(node, ast.Assign):
                    self.assertEqual(len(node.targets), 1, (path, node.lineno))
                if isinstance(node, (ast.While, ast.For)):
                    self.assertEqual(node.orelse, [], (path, node.lineno))
                if isinstance(node, ast.Try):
                    self.assertEqual(node.finalbody, [], (path, node.lineno))

    def test_expressions(self):
        for path in FILES:
            for node in parts_of(tree_of(path), ast.expr):
                place = (path, node.lineno)
                self.assertIsInstance(node, EXPRESSIONS, place)
                if isinstance(node, ast.Constant):
                    self.assertIsInstance(node.value, (int, str, type(None)), place)
                if isinstance(node, ast.BinOp):
                    self.assertNotIsInstance(node.op, (ast.Div, ast.MatMult), place)
                if isinstance(node, ast.ListComp):
                    self.assertEqual(len(node.generators), 1, place)
                    self.assertLessEqual(len(node.generators[0].ifs), 1, place)
                if isinstance(node, ast.Compare):
                    self.check_is(node, place)

    def check_is(self, node, place):
        for op, side in zip(node.ops, node.comparators):
            if isinstance(op, (ast.Is, ast.IsNot)):
                self.assertIsInstance(side, ast.Constant, place)
                self.assertIn(side.value, (None, True, False), place)

    def test_functions_and_classes(self):
        for path in FILES:
            tree = tree_of(path)
            for node in parts_of(tree, (ast.FunctionDef, ast.Lambda)):
                self.assertIsNone(node.args.vararg or node.args.kwarg, path)
                self.assertEqual(node.args.kwonlyargs + node.args.posonlyargs, [], path)
            for node in parts_of(tree, (ast.FunctionDef, ast.ClassDef)):
                self.assertEqual(node.decorator_list, [], path)
            for node in parts_of(tree, ast.ClassDef):
                self.assertIn(node, tree.body)
                self.assertLessEqual(len(node.bases), 1, node.name)
                for each in node.body:
                    self.assertIsInstance(each, (ast.FunctionDef, ast.Pass), node.name)

    def test_the_top_of_a_file(self):
        for path in FILES:
            tree = tree_of(path)
            self.assertIsNotNone(ast.get_docstring(tree), path)
            for node in tree.body[1:]:
                self.assertIsInstance(node, (ast.ImportFrom, ast.FunctionDef, ast.ClassDef, ast.Assign), path)
            names = top_names(tree) + imported(tree)
            self.assertEqual(len(names), len(set(names)), path)


class TestKept(unittest.TestCase):
    def test_lists_and_dicts_of_the_top_are_only_read(self):
        kept = [node.targets[0].id for path in FILES for node in tree_of(path).body
                if isinstance(node, ast.Assign) and isinstance(node.value, (ast.List, ast.Dict))]
        for path in FILES:
            tree = tree_of(path)
            parents = parents_in(tree)
            for node in parts_of(tree, ast.Name):
                if node.id in kept and isinstance(node.ctx, ast.Load):
                    above = parents[node]
                    indexed = isinstance(above, ast.Subscript) and isinstance(above.ctx, ast.Load)
                    asked = isinstance(above, ast.Compare) and isinstance(above.ops[0], (ast.In, ast.NotIn))
                    self.assertTrue(indexed or asked, (path, node.lineno))

    def test_what_a_loop_walks_is_not_changed_in_it(self):
        for path in FILES:
            for loop in parts_of(tree_of(path), ast.For):
                walked = [node.id for node in parts_of(loop.iter, ast.Name)]
                for node in [each for step in loop.body for each in ast.walk(step)]:
                    if isinstance(node, ast.Attribute) and node.attr in CHANGERS and isinstance(node.value, ast.Name):
                        self.assertNotIn(node.value.id, walked, (path, node.lineno))
                    if isinstance(node, ast.Subscript) and isinstance(node.ctx, ast.Store):
                        self.assertNotIn(getattr(node.value, "id", None), walked, (path, node.lineno))

    def test_methods_and_values_of_objects(self):
        classes = [each for path in FILES for each in parts_of(tree_of(path), ast.ClassDef)]
        methods = [node.name for each in classes for node in parts_of(each, ast.FunctionDef)]
        values = [node.attr for path in FILES for node in parts_of(tree_of(path), ast.Attribute)
                  if isinstance(node.ctx, ast.Store)]
        self.assertEqual(set(methods) & set(values), set())
        self.assertEqual(set(values) & set(NO_VALUES), set())
        self.assertLessEqual({name for name in methods if name.startswith("_")}, set(SPECIAL_METHODS))

    def test_errors_are_made_on_the_spot(self):
        for path in FILES:
            for node in parts_of(tree_of(path), ast.Raise):
                self.assertIsNotNone(called(node.exc), (path, node.lineno))

    def test_numbers_and_texts(self):
        for path in FILES:
            tree = tree_of(path)
            for node in parts_of(tree, ast.Constant):
                if isinstance(node.value, str):
                    self.assertNotIn("%", node.value, (path, node.lineno))
            for node in parts_of(tree, ast.BinOp):
                self.assertNotIsInstance(node.op, ast.Pow, (path, node.lineno))
            self.assertEqual(re.findall(r"\\[^nt\\'\"]", path.read_text()), [], path)


class TestCalls(unittest.TestCase):
    def test_isinstance(self):
        for path in FILES:
            for node in parts_of(tree_of(path), ast.Call):
                if called(node) == "isinstance":
                    kinds = node.args[1].elts if isinstance(node.args[1], ast.Tuple) else [node.args[1]]
                    for each in kinds:
                        self.assertIn(each.id, KINDS, (path, node.lineno))

    def test_what_is_walked_is_walked_on_the_spot(self):
        for path in FILES:
            tree = tree_of(path)
            parents = parents_in(tree)
            for node in parts_of(tree, ast.Call):
                method = node.func.attr if isinstance(node.func, ast.Attribute) else None
                if called(node) in WALKED_NAMES or method in WALKED_METHODS:
                    above = parents[node]
                    walked = isinstance(above, (ast.For, ast.comprehension)) and above.iter == node
                    handed = called(above) in WALKERS and above.args[0] == node
                    self.assertTrue(walked or handed, (path, node.lineno))

    def test_sets_are_asked_on_the_spot(self):
        for path in FILES:
            tree = tree_of(path)
            parents = parents_in(tree)
            for node in parts_of(tree, (ast.Call, ast.Set)):
                if called(node) in ("set", "frozenset") or isinstance(node, ast.Set):
                    above = parents[node]
                    while isinstance(above, ast.BinOp):
                        above = parents[above]
                    listed = called(above) in ("sorted", "len") and above.keywords == []
                    asked = isinstance(above, ast.Compare) and isinstance(above.ops[0], ASKED)
                    self.assertTrue(listed or asked, (path, node.lineno))

    def test_keywords(self):
        for path in FILES:
            tree = tree_of(path)
            for node in parts_of(tree, ast.Call):
                name = called(node)
                if name not in top_names(tree) + imported(tree):
                    for each in node.keywords:
                        self.assertIn(each.arg, KEYWORDS.get(name, ()), (path, node.lineno))


class TestNames(unittest.TestCase):
    def test_names_are_plain_and_known(self):
        for path in FILES:
            tree = tree_of(path)
            known = OWN_NAMES + top_names(tree) + imported(tree)
            for function in parts_of(tree, (ast.FunctionDef, ast.Lambda)):
                known = known + bound_in(function)
            for node in parts_of(tree, ast.Name):
                self.assertIn(node.id, known, (path, node.lineno))
                self.assertNotIn(node.id, NOT_USED, (path, node.lineno))
                self.assertRegex(node.id, r"\A[A-Za-z][A-Za-z0-9_]*\Z")
            for node in parts_of(tree, ast.FunctionDef):
                if node.name not in SPECIAL_METHODS:
                    self.assertRegex(node.name, r"\A[a-z][a-z0-9_]*\Z")
                    self.assertNotIn(node.name, NOT_USED)

    def test_no_local_is_called_like_another_thing(self):
        for path in FILES:
            tree = tree_of(path)
            classes = [node.name for node in parts_of(tree, ast.ClassDef)]
            taken = classes + imported(tree) + dir(builtins) + NOT_USED
            for function in parts_of(tree, (ast.FunctionDef, ast.Lambda)):
                for name in bound_in(function):
                    self.assertNotIn(name, taken, (path, function.lineno))

    def test_methods(self):
        own = [node.name for path in FILES for each in parts_of(tree_of(path), ast.ClassDef)
               for node in parts_of(each, ast.FunctionDef)]
        for path in FILES:
            for node in parts_of(tree_of(path), ast.Call):
                if isinstance(node.func, ast.Attribute):
                    self.assertIn(node.func.attr, METHODS + own, (path, node.lineno))
            for node in parts_of(tree_of(path), ast.Attribute):
                self.assertNotIn(node.attr, NOT_USED, (path, node.lineno))


if __name__ == "__main__":
    unittest.main()
