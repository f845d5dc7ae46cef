"""What a machine can easily see of ../shared/LANGUAGE.md, often narrower than written there."""

import ast
import builtins
import pathlib
import unittest

PACKAGE = pathlib.Path(__file__).resolve().parent.parent / "steadycalls"
PATHS = sorted(PACKAGE.glob("*.py"))

STATEMENTS = (
    ast.Assign, ast.AugAssign, ast.If, ast.While, ast.For, ast.Return, ast.Break, ast.Continue, ast.Pass, ast.Raise,
    ast.Assert, ast.Delete, ast.Nonlocal, ast.With, ast.Try, ast.Expr, ast.FunctionDef, ast.ClassDef, ast.ImportFrom,
)
MODULE_LEVEL = (ast.Assign, ast.ImportFrom, ast.FunctionDef, ast.ClassDef)
NOT_HERE = (
    ast.Lambda, ast.AsyncFunctionDef, ast.Global, ast.NamedExpr, ast.Set, ast.SetComp, ast.GeneratorExp, ast.Div,
    ast.AnnAssign, ast.Await, ast.MatMult,
)
DOUBLE = {
    "__init__", "__eq__", "__repr__", "__str__", "__len__", "__enter__", "__exit__", "__call__", "__iter__",
    "__lt__", "__le__", "__contains__", "__getitem__",
}
LIBRARY = {
    "len", "range", "enumerate", "zip", "min", "max", "sum", "abs", "sorted", "reversed", "int", "str", "bool",
    "list", "tuple", "dict", "isinstance", "ord", "repr", "any", "all", "divmod", "Exception", "ValueError",
    "TypeError", "KeyError", "IndexError", "LookupError", "ArithmeticError", "OverflowError", "RuntimeError",
    "NotImplementedError", "NotImplemented",
}
METHODS = set(
    "append clear copy count endswith extend find get index insert isalnum isalpha isdigit islower isspace isupper "
    "items join keys ljust lower lstrip partition pop remove replace reverse rfind rjust rpartition rsplit rstrip "
    "setdefault split splitlines startswith strip update upper values zfill bit_length".split()
)
NOWHERE = {"register", "mro", "elements", "open", "input", "law", "version_info", "with_traceback", "add_note"}
NOT_AS_NAMES = {
    "attrgetter", "breakpoint", "builtins", "compile", "copyright", "credits", "delattr", "dir", "eval", "exec", "exit",
    "gc", "getattr", "globals", "hasattr", "help", "id", "importlib", "license", "locals", "methodcaller", "os", "quit",
    "setattr", "super", "type", "vars", "sys",
}
WORDS = (
    "typing", "namedtuple", "NamedTuple", "TypedDict", "TYPE_CHECKING", "abstractmethod", "dataclass", "overload",
    "contextmanager", "_wall", "Meta", "metaclass", "(type)",
)
ITERATED_AT_ONCE = {"zip", "enumerate", "reversed", "range"}


def nodes(path):
    return list(ast.walk(ast.parse(path.read_text(encoding="ascii"))))


def bound_names(tree):
    """All names that a file binds or that its parameters have."""
    for node in ast.walk(tree):
        if isinstance(node, (ast.FunctionDef, ast.ClassDef)):
            yield node.name
        elif isinstance(node, ast.arg):
            yield node.arg
        elif isinstance(node, ast.Name) and isinstance(node.ctx, ast.Store):
            yield node.id
        elif isinstance(node, ast.alias):
            yield node.asname or node.name


class TestFiles(unittest.TestCase):
    def test_folder_contains_python_files_alone(self):
        found = [path for path in PACKAGE.iterdir() if path.name != "__pycache__"]
        self.assertEqual(sorted(found), PATHS)
        self.assertTrue((PACKAGE / "__init__.py").is_file())

    def test_characters_and_sizes(self):
        for path in PATHS:
            text = path.read_text(encoding="utf-8")
            self.assertTrue(all(letter == "\n" or " " <= letter <= "~" for letter in text), path)
            lines = text.splitlines()
            self.assertLessEqual(len(lines), 399, path)
            self.assertLessEqual(max(map(len, lines), default=0), 120, path)
            for word in WORDS:
                self.assertNotIn(word, text, path)

    def test_functions_are_short(self):
        for path in PATHS:
            for node in nodes(path):
                if isinstance(node, ast.FunctionDef):
                    self.assertLessEqual(node.end_lineno - node.lineno + 1, 40, (path, node.name))


class TestCode(unittest.TestCase):
    def test_module_level(self):
        for path in PATHS:
            bound = []
            for statement in ast.parse(path.read_text(encoding="ascii")).body:
                is_docstring = isinstance(statement, ast.Expr) and isinstance(statement.value, ast.Constant)
                self.assertTrue(is_docstring or isinstance(statement, MODULE_LEVEL), (path, statement.lineno))
                if isinstance(statement, ast.Assign):
                    self.assertEqual([type(target) for target in statement.targets], [ast.Name])
                    ast.literal_eval(statement.value)
                    bound.append(statement.targets[0].id)
                elif isinstance(statement, ast.ImportFrom):
                    bound += [alias.name for alias in statement.names]
                elif not is_docstring:
                    bound.append(statement.name)
            self.assertEqual(len(bound), len(set(bound)), path)

    def test_imports_name_the_file_that_defines(self):
        needs = {}
        for path in PATHS:
            needs[path.stem] = set()
            for node in nodes(path):
                self.assertNotIsInstance(node, ast.Import, path)
                if isinstance(node, ast.ImportFrom):
                    if node.module == "math":
                        self.assertEqual([(alias.name, alias.asname) for alias in node.names], [("gcd", None)], path)
                        continue
                    package, _, module = node.module.partition(".")
                    self.assertEqual((package, node.level), ("steadycalls", 0), path)
                    needs[path.stem].add(module)
                    body = ast.parse((PACKAGE / (module + ".py")).read_text(encoding="ascii")).body
                    defined = [one.name for one in body if isinstance(one, (ast.FunctionDef, ast.ClassDef))]
                    defined += [one.targets[0].id for one in body if isinstance(one, ast.Assign)]
                    for alias in node.names:
                        self.assertIn(alias.name, defined, path)
                        self.assertIsNone(alias.asname, path)
        while needs:
            free = [name for name in needs if not needs[name] & set(needs)]
            self.assertTrue(free, f"files import each other: {sorted(needs)}")
            for name in free:
                del needs[name]

    def test_statements_and_expressions(self):
        for path in PATHS:
            for node in nodes(path):
                if isinstance(node, ast.stmt):
                    self.assertIsInstance(node, STATEMENTS, (path, node.lineno))
                self.assertNotIsInstance(node, NOT_HERE, path)
                if isinstance(node, (ast.FunctionDef, ast.ClassDef)):
                    self.assertEqual(node.decorator_list, [], path)
                if isinstance(node, ast.FunctionDef):
                    self.assertIsNone(node.returns, path)
                if isinstance(node, ast.arg):
                    self.assertIsNone(node.annotation, path)
                if isinstance(node, ast.ExceptHandler):
                    self.assertIsInstance(node.type, ast.Name, path)
                    self.assertNotIn(node.type.id, dir(builtins), path)
                if isinstance(node, ast.Compare) and isinstance(node.ops[0], (ast.Is, ast.IsNot)):
                    self.assertIn(ast.unparse(node.comparators[0]), ("None", "True", "False"), path)
                if isinstance(node, ast.Constant):
                    self.assertNotIsInstance(node.value, float, path)

    def test_names(self):
        for path in PATHS:
            tree = ast.parse(path.read_text(encoding="ascii"))
            methods = {id(node) for one in ast.walk(tree) if isinstance(one, ast.ClassDef) for node in one.body}
            names = list(bound_names(tree))
            names += [node.attr for node in ast.walk(tree) if isinstance(node, ast.Attribute)]
            for name in names:
                self.assertNotIn(name, NOWHERE, path)
                self.assertTrue(not name.startswith("__") or name in DOUBLE, (path, name))
            outside = [node for node in ast.walk(tree) if id(node) not in methods]
            named = [node.name for node in outside if isinstance(node, (ast.FunctionDef, ast.ClassDef))]
            named += [node.arg for node in outside if isinstance(node, ast.arg)]
            named += [node.id for node in outside if isinstance(node, ast.Name) and isinstance(node.ctx, ast.Store)]
            for name in named:
                self.assertNotIn(name, NOT_AS_NAMES | set(dir(builtins)), path)
            for node in outside:
                if isinstance(node, ast.Name) and node.id in dir(builtins):
                    self.assertIn(node.id, LIBRARY, (path, node.lineno))

    def test_local_names_are_not_those_of_classes_and_imports(self):
        for path in PATHS:
            tree = ast.parse(path.read_text(encoding="ascii"))
            taken = {node.name for node in tree.body if isinstance(node, ast.ClassDef)}
            taken |= {alias.name for node in tree.body if isinstance(node, ast.ImportFrom) for alias in node.names}
            for node in ast.walk(tree):
                if isinstance(node, ast.arg):
                    self.assertNotIn(node.arg, taken, path)
                if isinstance(node, ast.Name) and isinstance(node.ctx, ast.Store):
                    self.assertNotIn(node.id, taken, (path, node.lineno))

    def test_methods(self):
        own = {one.name for path in PATHS for node in nodes(path) if isinstance(node, ast.ClassDef)
               for one in node.body if isinstance(one, ast.FunctionDef)}
        for path in PATHS:
            for node in nodes(path):
                if isinstance(node, ast.Call) and isinstance(node.func, ast.Attribute):
                    self.assertIn(node.func.attr, METHODS | own, (path, node.lineno))
                    if node.func.attr == "__init__":
                        self.assertIsInstance(node.func.value, ast.Name, path)

    def test_names_of_classes_methods_and_attributes(self):
        methods, attributes, generators, called = set(), set(), set(), []
        for path in PATHS:
            for node in nodes(path):
                if isinstance(node, ast.ClassDef):
                    self.assertTrue(node.name[0].isalpha(), (path, node.name))
                    methods |= {one.name for one in node.body if isinstance(one, ast.FunctionDef)}
                if isinstance(node, ast.Attribute) and isinstance(node.ctx, ast.Store):
                    attributes.add(node.attr)
                if isinstance(node, ast.FunctionDef):
                    called.append(node.name)
                    if any(isinstance(one, (ast.Yield, ast.YieldFrom)) for one in ast.walk(node)):
                        generators.add(node.name)
        self.assertEqual(methods & attributes, set())
        self.assertEqual(attributes & METHODS, {"index"})
        self.assertEqual([name for name in sorted(called) if name in generators], sorted(generators))
        self.assertEqual(generators & (attributes | METHODS), set())

    def test_strings(self):
        for path in PATHS:
            for node in nodes(path):
                if isinstance(node, ast.Constant) and isinstance(node.value, str):
                    self.assertNotIn("%", node.value, (path, node.lineno))
                    self.assertFalse(node.value.startswith("__"), (path, node.lineno))
                    self.assertNotEqual(node.value, "type", (path, node.lineno))

    def test_exponents_and_kept_iterators(self):
        for path in PATHS:
            for node in nodes(path):
                if isinstance(node, ast.BinOp) and isinstance(node.op, ast.Pow):
                    self.assertIsInstance(node.right, ast.Constant, (path, node.lineno))
                if isinstance(node, (ast.Assign, ast.Return)) and isinstance(node.value, ast.Call):
                    called = node.value.func
                    name = called.id if isinstance(called, ast.Name) else called.attr
                    self.assertNotIn(name, ITERATED_AT_ONCE | {"items", "keys", "values"}, (path, node.lineno))

    def test_generators_are_iterated_at_once(self):
        generators = {node.name for path in PATHS for node in nodes(path) if isinstance(node, ast.FunctionDef)
                      and any(isinstance(one, (ast.Yield, ast.YieldFrom)) for one in ast.walk(node))}
        for path in PATHS:
            allowed = []
            for node in nodes(path):
                if isinstance(node, (ast.For, ast.comprehension)):
                    allowed.append(node.iter)
                if isinstance(node, ast.Call) and isinstance(node.func, ast.Name):
                    if node.func.id in ("list", "tuple", "enumerate"):
                        allowed += node.args[:1]
            for node in nodes(path):
                if isinstance(node, ast.Call) and isinstance(node.func, ast.Name) and node.func.id in generators:
                    places = [(one.lineno, one.col_offset) for one in allowed]
                    self.assertIn((node.lineno, node.col_offset), places, path)
                    self.assertTrue(all(isinstance(arg, (ast.Name, ast.Attribute)) for arg in node.args), path)

    def test_operators_and_their_kin_return_plainly(self):
        for path in PATHS:
            for node in nodes(path):
                if isinstance(node, ast.FunctionDef) and node.name in ("__len__", "__str__", "__repr__"):
                    self.assertIsInstance(node.body[-1], ast.Return, path)
                if isinstance(node, ast.FunctionDef) and node.name in ("__eq__", "__lt__", "__le__", "__contains__",
                                                                        "__getitem__", "__len__"):
                    for one in ast.walk(node):
                        self.assertNotIsInstance(one, (ast.Assign, ast.AugAssign, ast.Delete), path)
                if isinstance(node, ast.ClassDef):
                    names = [one.name for one in node.body if isinstance(one, ast.FunctionDef)]
                    self.assertEqual(len(names), len(set(names)), path)
                    self.assertTrue("__getitem__" not in names or "__iter__" in names, path)

    def test_sorted_takes_what_is_plainly_strings_or_numbers(self):
        for path in PATHS:
            for node in nodes(path):
                if isinstance(node, ast.Call) and isinstance(node.func, ast.Name) and node.func.id in ("sorted", "min", "max"):
                    self.assertIsInstance(node.args[0], ast.ListComp, (path, node.lineno))
                    made = node.args[0].elt
                    self.assertTrue(isinstance(made, ast.Call) and made.func.id in ("str", "int", "len"), path)
                if isinstance(node, ast.Call) and isinstance(node.func, ast.Name) and node.func.id in ("any", "all", "sum"):
                    self.assertNotIsInstance(node.args[0], ast.GeneratorExp, path)

    def test_there_are_no_warnings(self):
        import warnings
        for path in PATHS:
            with warnings.catch_warnings():
                warnings.simplefilter("error")
                compile(path.read_text(encoding="ascii"), str(path), "exec")
