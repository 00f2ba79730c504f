"""What can be counted of the rules of the language, for the files of the package."""

import ast
import builtins
import pathlib
import re
import unittest
import warnings

PACKAGE = pathlib.Path(__file__).resolve().parent.parent / "partwise"
LIBRARY = ("heapq", "math", "itertools")

# L17: names that stand nowhere, and words that stand in comments and docstrings only.
BARRED_NAMES = """
register mro elements open input law version_info with_traceback add_note attrgetter breakpoint
builtins compile copyright credits delattr dir eval exec exit gc getattr globals hasattr help id
importlib license locals methodcaller os quit setattr vars sys
""".split()
BARRED_WORDS = """
type typing typing_extensions enum Enum IntEnum StrEnum Flag IntFlag Generic Protocol ABC ABCMeta
namedtuple NamedTuple TypedDict TYPE_CHECKING abstractmethod dataclass overload contextmanager
""".split()

# L8 and L25: what may be called.
BUILTINS = """
len range enumerate zip min max sum abs sorted reversed int str bool list tuple dict set isinstance
any all divmod map iter next ord repr property staticmethod classmethod super
""".split()
METHODS = """
append clear copy count endswith extend find get index insert isalnum isalpha isdigit islower
isspace isupper items join keys ljust lower lstrip partition pop remove replace reverse rfind rjust
rpartition rsplit rstrip setdefault split splitlines startswith strip update upper values zfill
bit_length
""".split()


def package_files():
    """The text of each file of the package, by its path."""
    paths = [path for path in PACKAGE.rglob("*") if path.is_file()]
    return {path: path.read_text("utf-8") for path in paths if "__pycache__" not in path.parts}


def all_nodes():
    return [
        (path, node)
        for path, text in package_files().items()
        for node in ast.walk(ast.parse(text))
    ]


def bound_names(tree):
    """The names of the functions, classes and values that a file defines."""
    names = [node.name for node in tree.body if isinstance(node, (ast.FunctionDef, ast.ClassDef))]
    for node in tree.body:
        if isinstance(node, ast.Assign):
            names += [target.id for target in node.targets]
    return names


def names_in(node):
    if isinstance(node, (ast.FunctionDef, ast.ClassDef)):
        return [node.name]
    if isinstance(node, ast.Name):
        return [node.id]
    if isinstance(node, ast.Attribute):
        return [node.attr]
    return [node.arg] if isinstance(node, ast.arg) else []


def is_property(node):
    return "property" in [ast.unparse(decorator) for decorator in node.decorator_list]


def attribute_names(nodes):
    """The names of the attributes that are assigned, and of the properties."""
    names = {
        node.attr for node in nodes if isinstance(node, ast.Attribute) and isinstance(node.ctx, ast.Store)
    }
    return names | {node.name for node in nodes if isinstance(node, ast.FunctionDef) and is_property(node)}


def called_name(node):
    return node.func.attr if isinstance(node.func, ast.Attribute) else getattr(node.func, "id", None)


def run_by_operators(nodes):
    """The functions that operators and properties run, by themselves or through others."""
    functions = [node for node in nodes if isinstance(node, ast.FunctionDef)]
    by_name = {}
    for function in functions:
        by_name.setdefault(function.name, []).append(function)
    for node in nodes:
        if isinstance(node, ast.ClassDef):
            makers = [child for child in node.body if getattr(child, "name", None) == "__init__"]
            by_name.setdefault(node.name, []).extend(makers)
    other = ("__init__", "__iter__", "__call__", "__enter__", "__exit__")
    waiting = [f for f in functions if is_property(f) or (f.name.startswith("__") and f.name not in other)]
    found = []
    while waiting:
        function = waiting.pop()
        if function not in found:
            found.append(function)
            calls = [node for node in ast.walk(function) if isinstance(node, ast.Call)]
            waiting += [other for call in calls for other in by_name.get(called_name(call), [])]
    return found


def text_without_docstrings(text):
    tree = ast.parse(text)
    for node in ast.walk(tree):
        if isinstance(node, (ast.Module, ast.FunctionDef, ast.ClassDef)) and ast.get_docstring(node) is not None:
            node.body[0].value.value = ""
    return ast.unparse(tree)


class RulesTest(unittest.TestCase):
    def test_only_python_files(self):
        self.assertIn(PACKAGE / "__init__.py", package_files())
        self.assertEqual([path for path in package_files() if path.suffix != ".py"], [])

    def test_characters(self):
        for path, text in package_files().items():
            self.assertEqual([c for c in text if c != "\n" and not " " <= c <= "~"], [], path)

    def test_sizes(self):
        for path, text in package_files().items():
            lines = text.split("\n")
            self.assertLessEqual(len(lines), 399, path)
            self.assertLessEqual(max(map(len, lines)), 120, path)

    def test_sizes_of_functions(self):
        for path, node in all_nodes():
            if isinstance(node, ast.FunctionDef):
                self.assertLessEqual(node.end_lineno - node.lineno, 39, (path, node.name))

    def test_strings(self):
        for path, node in all_nodes():
            if isinstance(node, ast.Constant) and isinstance(node.value, str):
                self.assertNotIn("%", node.value, (path, node.lineno))

    def test_imports(self):
        for path, node in all_nodes():
            self.assertNotIsInstance(node, ast.Import, path)
            if isinstance(node, ast.ImportFrom):
                self.assertEqual(node.level, 0, path)
                self.assertIn(node.module.split(".")[0], ("partwise",) + LIBRARY, path)

    def test_imported_names_are_defined_there(self):
        trees = {path.stem: ast.parse(text) for path, text in package_files().items()}
        for file, tree in trees.items():
            for node in tree.body:
                if isinstance(node, ast.ImportFrom) and node.module.split(".")[0] == "partwise":
                    bound = bound_names(trees[node.module.split(".")[1]])
                    for alias in node.names:
                        self.assertIn(alias.name, bound, file)
                        self.assertIsNone(alias.asname, file)

    def test_imports_are_used_and_not_circular(self):
        below = {}
        for path, text in package_files().items():
            tree = ast.parse(text)
            imports = [node for node in tree.body if isinstance(node, ast.ImportFrom)]
            below[path.stem] = [node.module.split(".")[-1] for node in imports]
            used = [node.id for node in ast.walk(tree) if isinstance(node, ast.Name)]
            for name in [alias.name for node in imports for alias in node.names]:
                self.assertIn(name, used, path)
        while below:
            free = [file for file in below if not any(other in below for other in below[file])]
            self.assertNotEqual(free, [], below)
            below = {file: below[file] for file in below if file not in free}

    def test_names(self):
        for path, node in all_nodes():
            if isinstance(node, ast.ClassDef):
                self.assertTrue(node.name[0].isalpha(), (path, node.name))
            for name in names_in(node):
                self.assertNotIn(name, BARRED_NAMES, path)
                self.assertRegex(name, "^(_?[A-Za-z][A-Za-z0-9_]*|_|__[a-z]+__)$", path)

    def test_words(self):
        for path, text in package_files().items():
            for barred in ("(type)", "Meta", "metaclass=", "_wall", "_WallAttr"):
                self.assertNotIn(barred, text, path)
            words = re.findall("[A-Za-z_]+", text_without_docstrings(text))
            self.assertEqual([word for word in words if word in BARRED_WORDS], [], path)

    def test_local_names(self):
        for path, text in package_files().items():
            tree = ast.parse(text)
            taken = {alias.name for node in tree.body if isinstance(node, ast.ImportFrom) for alias in node.names}
            taken |= {node.name for node in tree.body if isinstance(node, ast.ClassDef)} | set(dir(builtins))
            for node in ast.walk(tree):
                if isinstance(node, ast.arg):
                    self.assertNotIn(node.arg, taken, path)
                if isinstance(node, ast.Name) and isinstance(node.ctx, ast.Store):
                    self.assertNotIn(node.id, taken - {"_"}, (path, node.lineno))

    def test_statements(self):
        barred = (
            ast.Global, ast.Nonlocal, ast.AnnAssign, ast.AsyncFunctionDef, ast.GeneratorExp, ast.YieldFrom,
            ast.Set, ast.With, ast.Div, ast.Delete, ast.Match,
        )
        for path, node in all_nodes():
            self.assertNotIsInstance(node, barred, (path, getattr(node, "lineno", 0)))
            if isinstance(node, ast.Constant):
                self.assertNotIsInstance(node.value, (float, complex), path)

    def test_handlers_name_own_errors(self):
        own = {node.name for _, node in all_nodes() if isinstance(node, ast.ClassDef)}
        for path, node in all_nodes():
            if isinstance(node, ast.ExceptHandler):
                self.assertIsInstance(node.type, ast.Name, path)
                self.assertIn(node.type.id, own, path)

    def test_finally_assigns_only(self):
        for path, node in all_nodes():
            for statement in node.finalbody if isinstance(node, ast.Try) else []:
                for child in ast.walk(statement):
                    kinds = (
                        ast.If, ast.Assign, ast.Compare, ast.Is, ast.Constant, ast.Tuple, ast.Name, ast.Attribute,
                        ast.Load, ast.Store,
                    )
                    self.assertIsInstance(child, kinds, (path, statement.lineno))

    def test_generators(self):
        functions = [(path, node) for path, node in all_nodes() if isinstance(node, ast.FunctionDef)]
        names = [node.name for _, node in functions]
        for path, function in functions:
            yields = [node for node in ast.walk(function) if isinstance(node, ast.Yield)]
            statements = [node.value for node in ast.walk(function) if isinstance(node, ast.Expr)]
            self.assertEqual([node for node in yields if node not in statements], [], path)
            if yields:
                self.assertEqual(names.count(function.name), 1, path)
                self.assertNotIn(function.name, METHODS, path)

    def test_super_calls_methods_only(self):
        for path, text in package_files().items():
            tree = ast.parse(text)
            parents = {child: node for node in ast.walk(tree) for child in ast.iter_child_nodes(node)}
            for node in ast.walk(tree):
                if isinstance(node, ast.Name) and node.id == "super":
                    call = parents[node]
                    self.assertEqual(ast.unparse(call), "super()", path)
                    self.assertIsInstance(parents[call], ast.Attribute, path)
                    self.assertIsInstance(parents[parents[call]], ast.Call, path)

    def test_no_name_is_a_method_and_an_attribute(self):
        nodes = [node for _, node in all_nodes()]
        attributes = attribute_names(nodes)
        for node in nodes:
            for child in node.body if isinstance(node, ast.ClassDef) else []:
                if isinstance(child, ast.FunctionDef) and not is_property(child):
                    self.assertNotIn(child.name, attributes)

    def test_attributes_that_are_read_are_assigned(self):
        nodes = [node for _, node in all_nodes()]
        methods = {node.name for node in nodes if isinstance(node, ast.FunctionDef)}
        known = attribute_names(nodes) | methods | set(METHODS)
        for node in nodes:
            if isinstance(node, ast.Attribute):
                self.assertIn(node.attr, known)

    def test_no_property_is_an_attribute_of_another_class(self):
        nodes = [node for _, node in all_nodes()]
        properties = {node.name for node in nodes if isinstance(node, ast.FunctionDef) and is_property(node)}
        for node in nodes:
            if isinstance(node, ast.Attribute) and isinstance(node.ctx, ast.Store):
                self.assertNotIn(node.attr, properties)

    def test_decorators(self):
        for path, node in all_nodes():
            if isinstance(node, (ast.FunctionDef, ast.ClassDef)):
                names = [ast.unparse(decorator) for decorator in node.decorator_list]
                self.assertIn(names, ([], ["property"], ["staticmethod"]), (path, node.name))

    def test_is_compares_with_none_only(self):
        for path, node in all_nodes():
            if isinstance(node, ast.Compare) and any(isinstance(op, (ast.Is, ast.IsNot)) for op in node.ops):
                for other in node.comparators:
                    self.assertIsInstance(other, ast.Constant, (path, node.lineno))

    def test_calls(self):
        own = {node.name for _, node in all_nodes() if isinstance(node, ast.FunctionDef)}
        for path, node in all_nodes():
            if not isinstance(node, ast.Call):
                continue
            where = (path, node.lineno)
            if isinstance(node.func, ast.Attribute):
                self.assertIn(node.func.attr, own | set(METHODS), where)
            elif node.func.id in dir(builtins):
                self.assertIn(node.func.id, BUILTINS + ["TypeError"], where)
            for argument in node.args:
                if isinstance(argument, ast.Starred):
                    self.assertIsInstance(argument.value, ast.Name, where)
            # Asked for by a class with __getitem__.
            if isinstance(node.func, ast.Name) and node.func.id == "reversed":
                self.assertIsInstance(node.args[0], ast.Call, where)

    def test_no_attribute_is_called_in_what_operators_run(self):
        nodes = [node for _, node in all_nodes()]
        attributes = attribute_names(nodes)
        self.assertIn("index", attributes)
        self.assertIn("schema", attributes)
        names = [function.name for function in run_by_operators(nodes)]
        self.assertIn("place_of", names)
        self.assertIn("_read_atom", names)
        for function in run_by_operators(nodes):
            for node in ast.walk(function):
                if isinstance(node, ast.Call) and isinstance(node.func, ast.Attribute):
                    self.assertNotIn(node.func.attr, attributes, (function.name, node.lineno))

    def test_sets_are_asked_for_their_length_only(self):
        for path, node in all_nodes():
            for child in ast.iter_child_nodes(node):
                is_set = isinstance(child, ast.Call) and ast.unparse(child.func) == "set"
                if isinstance(child, ast.SetComp) or is_set:
                    self.assertIsInstance(node, ast.Call, path)
                    self.assertIn(ast.unparse(node.func), ("len", "sorted"), path)

    def test_no_warnings(self):
        with warnings.catch_warnings():
            warnings.simplefilter("error")
            for path, text in package_files().items():
                compile(text, str(path), "exec")


if __name__ == "__main__":
    unittest.main()
