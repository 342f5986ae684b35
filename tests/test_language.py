"""The package keeps to the part of Python that LANGUAGE.md tells: what of it can be seen in a file's own tree."""

import ast
import builtins
import pathlib
import re
import unittest

PACKAGE = pathlib.Path(__file__).resolve().parent.parent / "slideroom"

STATEMENTS = (
    ast.Assign, ast.AugAssign, ast.If, ast.While, ast.For, ast.Return, ast.Break, ast.Continue, ast.Pass, ast.Raise,
    ast.Try, ast.Expr, ast.FunctionDef, ast.ClassDef, ast.ImportFrom,
)
EXPRESSIONS = (
    ast.BoolOp, ast.BinOp, ast.UnaryOp, ast.Lambda, ast.IfExp, ast.Dict, ast.ListComp, ast.Compare, ast.Call,
    ast.FormattedValue, ast.JoinedStr, ast.Constant, ast.Attribute, ast.Subscript, ast.Name, ast.List, ast.Tuple,
    ast.Slice,
)
OWN_NAMES = set(
    "len range enumerate zip min max sum abs sorted reversed int str bool list tuple dict set frozenset isinstance ord"
    " repr any all divmod Exception ValueError TypeError KeyError IndexError LookupError ZeroDivisionError"
    " ArithmeticError OverflowError RuntimeError NotImplementedError AttributeError StopIteration".split()
)
OWN_METHODS = set(
    "append clear copy count endswith extend find get index insert isalnum isalpha isdigit islower isspace isupper"
    " items join keys ljust lower lstrip partition pop remove replace reverse rfind rjust rpartition rsplit rstrip"
    " setdefault split splitlines startswith strip update upper values zfill bit_length".split()
)
PYTHONS_METHODS = set(dir(str)) | set(dir(int)) | set(dir(list)) | set(dir(dict)) | set(dir(set)) | set(dir(bytes))
DOUBLE = {"__init__", "__eq__", "__repr__", "__str__", "__len__"}
WORDS_OUT = re.compile(
    r"\b(type|typing|typing_extensions|enum|Enum|IntEnum|StrEnum|Flag|IntFlag|Generic|Protocol|ABC|ABCMeta"
    r"|namedtuple|NamedTuple|TypedDict|TYPE_CHECKING|abstractmethod)\b|dataclass|overload|contextmanager"
)
NAMES_OUT = set(
    "register mro elements open input version_info with_traceback add_note attrgetter breakpoint builtins compile"
    " copyright credits delattr dir eval exec exit gc getattr globals hasattr help id importlib license locals"
    " methodcaller os quit setattr super type vars sys __name__ chr print".split()
)
WALKED = {"zip", "enumerate", "reversed", "range"}
WALKERS = {"list", "tuple", "dict", "sorted", "sum", "any", "all", "enumerate", "zip"}


def files():
    return sorted(PACKAGE.glob("*.py"))


def trees():
    return [(path, ast.parse(path.read_text())) for path in files()]


def nodes(*kinds):
    for path, tree in trees():
        for node in ast.walk(tree):
            if isinstance(node, kinds):
                yield path.name, node


def names_of_top(tree):
    """The names of a file's own functions, classes and values."""
    for node in tree.body:
        if isinstance(node, ast.Assign):
            yield node.targets[0].id
        elif isinstance(node, (ast.FunctionDef, ast.ClassDef)):
            yield node.name


def within():
    """Every node beside the one in which it stands."""
    for path, tree in trees():
        for outer in ast.walk(tree):
            for node in ast.iter_child_nodes(outer):
                yield path.name, node, outer


def called_name(node):
    """The name that a node calls, None where it calls none."""
    if isinstance(node, ast.Call) and isinstance(node.func, ast.Name):
        return node.func.id
    return None


class FilesTest(unittest.TestCase):
    def test_what_lies_in_the_folder(self):
        for path in PACKAGE.iterdir():
            if path.name != "__pycache__":
                self.assertRegex(path.name, r"\A([a-z][a-z0-9]*|__init__)\.py\Z")
                self.assertNotIn(path.stem, dir(builtins))
        self.assertIn("__init__.py", [path.name for path in files()])

    def test_signs_and_sizes(self):
        for path in files():
            text = path.read_text(encoding="utf-8")
            self.assertRegex(text, r"\A[ -~\n]*\Z", path.name)
            self.assertIsNone(WORDS_OUT.search(text), path.name)
            self.assertLessEqual(len(text.split("\n")), 400, path.name)
            for line in text.split("\n"):
                self.assertLessEqual(len(line), 120, (path.name, line))

    def test_functions_are_short(self):
        for name, node in nodes(ast.FunctionDef):
            self.assertLessEqual(node.end_lineno - node.lineno + 1, 40, (name, node.name))


class TopTest(unittest.TestCase):
    def test_imports(self):
        defined = {path.stem: set(names_of_top(tree)) for path, tree in trees()}
        for path, tree in trees():
            for node in ast.walk(tree):
                self.assertNotIsInstance(node, ast.Import)
                if isinstance(node, ast.ImportFrom):
                    self.assertIn(node, tree.body)
                    self.assertEqual(node.level, 0)
                    package, _, module = node.module.partition(".")
                    self.assertEqual(package, "slideroom")
                    for alias in node.names:
                        self.assertIsNone(alias.asname)
                        self.assertIn(alias.name, defined[module], (path.name, alias.name))

    def test_every_import_is_used(self):
        for path, tree in trees():
            used = {node.id for node in ast.walk(tree) if isinstance(node, ast.Name)}
            for node in tree.body:
                if isinstance(node, ast.ImportFrom):
                    for alias in node.names:
                        self.assertIn(alias.name, used, path.name)

    def test_no_two_files_draw_from_one_another(self):
        draws = {
            path.stem: [node.module.partition(".")[2] for node in tree.body if isinstance(node, ast.ImportFrom)]
            for path, tree in trees()
        }
        settled = set()
        while len(settled) < len(draws):
            more = {name for name, drawn in draws.items() if set(drawn) <= settled} - settled
            self.assertTrue(more, "a circle of imports")
            settled |= more

    def test_the_top_of_a_file(self):
        for path, tree in trees():
            self.assertIsNotNone(ast.get_docstring(tree), path.name)
            bound = []
            functions = []
            for node in tree.body[1:]:
                if isinstance(node, ast.FunctionDef):
                    functions.append(node.name)
                self.assertIsInstance(node, (ast.ImportFrom, ast.FunctionDef, ast.ClassDef, ast.Assign), path.name)
                if isinstance(node, ast.Assign):
                    self.assertEqual(len(node.targets), 1)
                    self.check_plain_value(path.name, node.value, functions)
                    bound.append(node.targets[0].id)
                elif isinstance(node, ast.ImportFrom):
                    bound.extend(alias.name for alias in node.names)
                else:
                    bound.append(node.name)
            self.assertEqual(len(bound), len(set(bound)), path.name)
            self.assertFalse(set(bound) & set(dir(builtins)), path.name)

    def check_plain_value(self, name, value, functions):
        """Plain values, and lists, tuples and dicts of these and of functions defined above."""
        for node in ast.walk(value):
            if isinstance(node, ast.Name):
                self.assertIn(node.id, functions, name)
            elif not isinstance(node, (ast.Load, ast.USub)):
                self.assertIsInstance(node, (ast.Constant, ast.UnaryOp, ast.Tuple, ast.List, ast.Dict), name)
            if node is not value:
                self.assertNotIsInstance(node, (ast.List, ast.Dict), name)

    def test_lists_and_dicts_of_the_top_are_only_read(self):
        for path, tree in trees():
            kept = {
                node.targets[0].id for node in tree.body
                if isinstance(node, ast.Assign) and isinstance(node.value, (ast.List, ast.Dict))
            }
            for outer in ast.walk(tree):
                for node in ast.iter_child_nodes(outer):
                    if isinstance(node, ast.Name) and node.id in kept and isinstance(node.ctx, ast.Load):
                        indexed = isinstance(outer, ast.Subscript) and isinstance(outer.ctx, ast.Load)
                        self.assertTrue(indexed or isinstance(outer, ast.Compare), (path.name, node.id))


class CodeTest(unittest.TestCase):
    def test_statements(self):
        for name, node in nodes(ast.stmt):
            self.assertIsInstance(node, STATEMENTS, (name, node.lineno))
            if isinstance(node, (ast.While, ast.For)):
                self.assertEqual(node.orelse, [], (name, node.lineno))
            if isinstance(node, ast.Try):
                self.assertEqual(node.finalbody, [], (name, node.lineno))
            if isinstance(node, ast.Assign):
                self.assertEqual(len(node.targets), 1, (name, node.lineno))
                self.assertIsInstance(node.targets[0], (ast.Name, ast.Attribute, ast.Subscript), (name, node.lineno))
            if isinstance(node, ast.Expr):
                self.assertIsInstance(node.value, (ast.Call, ast.Constant), (name, node.lineno))

    def test_expressions(self):
        for name, node in nodes(ast.expr):
            self.assertIsInstance(node, EXPRESSIONS, (name, node.lineno))
            if isinstance(node, ast.Constant):
                self.assertIn(type(node.value), (int, str, bool, type(None)), (name, node.lineno))
                self.assertNotIn("%", str(node.value), (name, node.lineno))
            if isinstance(node, ast.BinOp):
                self.assertNotIsInstance(node.op, (ast.Div, ast.MatMult), (name, node.lineno))
                if isinstance(node.op, ast.Pow):
                    self.assertIsInstance(node.right, ast.Constant, (name, node.lineno))
            if isinstance(node, ast.ListComp):
                self.assertEqual(len(node.generators), 1, (name, node.lineno))
                self.assertLessEqual(len(node.generators[0].ifs), 1, (name, node.lineno))
            if isinstance(node, ast.FormattedValue):
                self.assertIsInstance(node.value, ast.Name, (name, node.lineno))
                self.assertIsNone(node.format_spec, (name, node.lineno))

    def test_is_stands_beside_none_and_truths(self):
        for name, node in nodes(ast.Compare):
            for op, right in zip(node.ops, node.comparators):
                if isinstance(op, (ast.Is, ast.IsNot)):
                    self.assertIsInstance(right, ast.Constant, (name, node.lineno))

    def test_functions(self):
        for name, node in nodes(ast.FunctionDef, ast.Lambda):
            rules = node.args
            self.assertFalse(rules.vararg or rules.kwarg or rules.kwonlyargs or rules.posonlyargs, name)
            for one in rules.args:
                self.assertIsNone(one.annotation, (name, node.lineno))
            if isinstance(node, ast.FunctionDef):
                self.assertEqual(node.decorator_list, [], (name, node.name))
                self.assertIsNone(node.returns, (name, node.name))

    def test_classes(self):
        for name, node in nodes(ast.ClassDef):
            self.assertLessEqual(len(node.bases), 1, (name, node.name))
            self.assertEqual(node.decorator_list + node.keywords, [], (name, node.name))
            self.assertIsNotNone(ast.get_docstring(node), (name, node.name))
            for one in node.body[1:]:
                self.assertIsInstance(one, ast.FunctionDef, (name, node.name))
            methods = [one.name for one in node.body[1:]]
            self.assertEqual(len(methods), len(set(methods)), (name, node.name))
            for method in methods:
                if method not in DOUBLE:
                    self.assertNotIn(method, PYTHONS_METHODS - OWN_METHODS - {"add", "discard"}, (name, method))

    def test_a_name_is_a_method_or_a_value(self):
        methods = {one.name for _, node in nodes(ast.ClassDef) for one in node.body if hasattr(one, "name")}
        stored = {node.attr for _, node in nodes(ast.Attribute) if isinstance(node.ctx, ast.Store)}
        self.assertFalse(methods & stored)
        allowed = set("count index title find get join lower upper split strip copy add".split())
        self.assertFalse(stored & (PYTHONS_METHODS - allowed) | stored & {"args"})

    def test_what_is_called_as_a_method(self):
        methods = {one.name for _, node in nodes(ast.ClassDef) for one in node.body if hasattr(one, "name")}
        for name, node in nodes(ast.Call):
            if isinstance(node.func, ast.Attribute):
                self.assertIn(node.func.attr, methods | OWN_METHODS, (name, node.lineno))

    def test_methods_are_called_where_they_stand(self):
        methods = {one.name for _, node in nodes(ast.ClassDef) for one in node.body if hasattr(one, "name")}
        for name, node, outer in within():
            if isinstance(node, ast.Attribute) and node.attr in methods | OWN_METHODS:
                self.assertTrue(isinstance(outer, ast.Call) and outer.func is node, (name, node.lineno))

    def test_what_is_walked_at_once(self):
        for name, node, outer in within():
            walks = called_name(node) in WALKED
            if isinstance(node, ast.Call) and isinstance(node.func, ast.Attribute):
                walks = node.func.attr in {"items", "keys", "values"}
            if walks:
                in_loop = isinstance(outer, (ast.For, ast.comprehension)) and outer.iter is node
                in_call = called_name(outer) in WALKERS and outer.args[0] is node
                alone = called_name(outer) in {"min", "max"} and outer.args == [node]
                self.assertTrue(in_loop or in_call or alone, (name, node.lineno))

    def test_what_is_taken_of_errors(self):
        for name, node in nodes(ast.ExceptHandler):
            self.assertIsInstance(node.type, ast.Name, (name, node.lineno))
            self.assertNotIn(node.type.id, {"Exception", "TypeError", "ValueError", "LookupError", "IndexError"}, name)

    def test_base_classes_are_only_asked_to_make(self):
        classes = {node.name for _, node in nodes(ast.ClassDef)}
        for name, node in nodes(ast.Attribute):
            if isinstance(node.value, ast.Name) and node.value.id in classes:
                self.assertEqual(node.attr, "__init__", (name, node.lineno))

    def test_names(self):
        for path, tree in trees():
            top = {one.name for one in tree.body if hasattr(one, "name")}
            top |= {alias.name for one in tree.body if isinstance(one, ast.ImportFrom) for alias in one.names}
            for node in ast.walk(tree):
                if isinstance(node, (ast.Name, ast.arg)):
                    name = node.id if isinstance(node, ast.Name) else node.arg
                    self.assertRegex(name, r"\A[A-Za-z][A-Za-z0-9_]*\Z", path.name)
                    self.assertNotIn(name, NAMES_OUT, path.name)
                    if isinstance(node, ast.arg) or isinstance(node.ctx, ast.Store):
                        self.assertNotIn(name, dir(builtins), path.name)
                        self.assertNotIn(name, top, path.name)
                    elif name in dir(builtins):
                        self.assertIn(name, OWN_NAMES, path.name)


if __name__ == "__main__":
    unittest.main()
