"""The package keeps to the small part of Python that it is written in."""

import ast
import builtins
import pathlib
import re
import unittest

PACKAGE = pathlib.Path(__file__).resolve().parent.parent / "soonways"
FILES = sorted(PACKAGE.glob("**/*.py"))

OWN_NAMES = set(
    "len range enumerate zip min max sum abs sorted reversed int str bool list tuple dict set frozenset isinstance"
    " ord repr any all divmod KeyError ZeroDivisionError StopIteration ValueError".split()
)
METHODS = set(
    "append clear copy count endswith extend find get index insert isalnum isalpha isdigit islower isspace isupper"
    " items join keys ljust lower lstrip partition pop remove replace reverse rfind rjust rpartition rsplit rstrip"
    " setdefault split splitlines startswith strip update upper values zfill bit_length".split()
)
NODES = set(
    "Module FunctionDef ClassDef ImportFrom alias arguments arg Return Assign For While If Raise Try ExceptHandler"
    " Expr Pass Break Continue BoolOp BinOp UnaryOp Lambda IfExp Dict ListComp comprehension Compare Call JoinedStr"
    " FormattedValue Constant Attribute Subscript Name List Tuple Slice keyword Load Store And Or Not USub"
    " Add Sub Mult FloorDiv Mod Pow LShift RShift BitOr BitXor BitAnd Eq NotEq Lt LtE Gt GtE Is IsNot In NotIn".split()
)
NO_WORDS = (
    "type typing typing_extensions enum Enum IntEnum StrEnum Flag IntFlag Generic Protocol ABC ABCMeta namedtuple"
    " NamedTuple TypedDict TYPE_CHECKING abstractmethod".split()
)
NO_NAMES = "register mro elements open input version_info with_traceback add_note format format_map".split()
BUILT_IN = set(dir(builtins))
VALUE_METHODS = {name for kind in (str, int, list, dict, set, bytes) for name in dir(kind)}
WALKED = ("zip", "enumerate", "reversed", "range")
WALKERS = ("list", "tuple", "dict", "sorted", "sum", "any", "all", "enumerate", "zip", "min", "max")


def bound_names(tree):
    """Each name that a file gives a meaning to, with its row."""
    for node in ast.walk(tree):
        if isinstance(node, (ast.FunctionDef, ast.ClassDef)):
            yield node.name, node.lineno
        elif isinstance(node, ast.arg):
            yield node.arg, node.lineno
        elif isinstance(node, ast.Name) and isinstance(node.ctx, ast.Store):
            yield node.id, node.lineno
        elif isinstance(node, ast.alias):
            yield node.asname or node.name, node.lineno


def top_names(tree):
    found = []
    for node in tree.body:
        if isinstance(node, (ast.FunctionDef, ast.ClassDef)):
            found.append(node.name)
        elif isinstance(node, ast.Assign):
            found.append(node.targets[0].id)
    return found


def method_names(trees):
    return {node.name for tree in trees for owner in ast.walk(tree) if isinstance(owner, ast.ClassDef)
            for node in owner.body if isinstance(node, ast.FunctionDef)}


def local_names(function):
    return [name for name, row in bound_names(function) if name != function.name]


class FormTest(unittest.TestCase):
    def setUp(self):
        self.texts = {path: path.read_text(encoding="ascii") for path in FILES}
        self.trees = {path: ast.parse(text) for path, text in self.texts.items()}

    def each_node(self, *kinds):
        for path, tree in self.trees.items():
            for node in ast.walk(tree):
                if isinstance(node, kinds):
                    yield f"{path.name}:{getattr(node, 'lineno', 0)}", node

    def test_files(self):
        self.assertIn("__init__.py", [path.name for path in FILES])
        for path in PACKAGE.iterdir():
            if path.name != "__pycache__":
                self.assertRegex(path.name, r"^([a-z][a-z0-9_]*|__init__)\.py$")
                self.assertFalse(path.stem in BUILT_IN or path.stem in NO_WORDS, path.name)

    def test_signs_and_sizes(self):
        for path, text in self.texts.items():
            self.assertRegex(text, r"\A[\n -~]*\n\Z", path.name)
            self.assertLessEqual(len(text.splitlines()), 399, path.name)
            self.assertLessEqual(max(len(line) for line in text.splitlines()), 120, path.name)
            for word in NO_WORDS:
                self.assertNotRegex(text, rf"\b{word}\b", path.name)
            self.assertIsNone(re.search("dataclass|overload|contextmanager", text), path.name)
        for where, node in self.each_node(ast.FunctionDef):
            self.assertLessEqual(node.end_lineno - node.lineno + 1, 40, where)

    def test_statements_and_expressions(self):
        for where, node in self.each_node(ast.AST):
            self.assertIn(node.__class__.__name__, NODES, where)
        for where, node in self.each_node(ast.Assign):
            self.assertEqual(len(node.targets), 1, where)
            self.assertIsInstance(node.targets[0], (ast.Name, ast.Attribute, ast.Subscript), where)
        for where, node in self.each_node(ast.For, ast.While):
            self.assertEqual(node.orelse, [], where)
        for where, node in self.each_node(ast.ListComp):
            self.assertEqual(len(node.generators), 1, where)
            self.assertLessEqual(len(node.generators[0].ifs), 1, where)
        for where, node in self.each_node(ast.Constant):
            self.assertIn(node.value.__class__, (int, str, bool, None.__class__), where)
        for where, node in self.each_node(ast.FormattedValue):
            self.assertIsInstance(node.value, ast.Name, where)
        for path, tree in self.trees.items():
            for node in ast.walk(tree):
                if isinstance(node, ast.Expr) and node is not tree.body[0]:
                    self.assertIsInstance(node.value, ast.Call, path.name)

    def test_functions_and_classes(self):
        for where, node in self.each_node(ast.FunctionDef, ast.Lambda):
            self.assertIsNone(node.args.vararg or node.args.kwarg, where)
            self.assertEqual(node.args.kwonlyargs + node.args.posonlyargs, [], where)
        for where, node in self.each_node(ast.FunctionDef, ast.ClassDef):
            self.assertEqual(node.decorator_list, [], where)
        for where, node in self.each_node(ast.FunctionDef):
            self.assertIsNone(node.returns, where)
        for where, node in self.each_node(ast.arg):
            self.assertIsNone(node.annotation, where)
        for where, node in self.each_node(ast.ClassDef):
            self.assertEqual([part for part in node.body if not isinstance(part, ast.FunctionDef)], [], where)

    def test_top_of_a_file(self):
        for path, tree in self.trees.items():
            self.assertIsInstance(ast.get_docstring(tree), str, path.name)
            for node in tree.body[1:]:
                self.assertIsInstance(node, (ast.ImportFrom, ast.FunctionDef, ast.ClassDef, ast.Assign), path.name)
                if isinstance(node, ast.Assign):
                    self.assertIsInstance(ast.literal_eval(node.value), (int, str, tuple, list, dict), path.name)
            names = top_names(tree)
            self.assertEqual(len(names), len(set(names)), path.name)

    def test_imports(self):
        drawn = {}
        for path, tree in self.trees.items():
            drawn[path.stem] = []
            for node in tree.body:
                if isinstance(node, ast.ImportFrom):
                    self.assertRegex(node.module, r"^soonways\.[a-z]+$", path.name)
                    source = node.module.split(".")[1]
                    drawn[path.stem].append(source)
                    for alias in node.names:
                        self.assertIsNone(alias.asname, path.name)
                        self.assertIn(alias.name, top_names(self.trees[PACKAGE / f"{source}.py"]), path.name)
                        self.assertGreater(len(re.findall(rf"\b{alias.name}\b", self.texts[path])), 1, alias.name)
        self.assertEqual(drawn["__init__"], [])
        while drawn:
            free = [stem for stem, sources in drawn.items() if not set(sources) & set(drawn)]
            self.assertTrue(free, drawn)
            for stem in free:
                del drawn[stem]

    def test_names(self):
        methods = method_names(self.trees.values())
        for path, tree in self.trees.items():
            classes = [node.name for node in tree.body if isinstance(node, ast.ClassDef)]
            imports = [alias.name for node in tree.body if isinstance(node, ast.ImportFrom) for alias in node.names]
            for name, row in bound_names(tree):
                where = f"{path.name}:{row} {name}"
                if name != "__init__":
                    self.assertRegex(name, r"^[A-Za-z][A-Za-z0-9_]*$", where)
                self.assertNotIn(name, NO_NAMES, where)
                if name not in methods:
                    self.assertNotIn(name, BUILT_IN, where)
            for node in ast.walk(tree):
                if isinstance(node, ast.FunctionDef):
                    for name in local_names(node):
                        self.assertNotIn(name, classes + imports + top_names(tree), path.name)

    def test_names_of_pythons_own(self):
        for path, tree in self.trees.items():
            bound = {name for name, row in bound_names(tree)}
            for node in ast.walk(tree):
                if isinstance(node, ast.Name) and node.id not in bound:
                    self.assertIn(node.id, OWN_NAMES, f"{path.name}:{node.lineno}")

    def test_methods_and_values(self):
        methods = method_names(self.trees.values())
        values = {node.attr for where, node in self.each_node(ast.Attribute) if isinstance(node.ctx, ast.Store)}
        self.assertEqual(methods & values, set())
        self.assertEqual((methods - {"__init__"} | values) & VALUE_METHODS, set())
        called = {id(node.func) for where, node in self.each_node(ast.Call)}
        for where, node in self.each_node(ast.Attribute):
            if id(node) in called:
                self.assertIn(node.attr, METHODS | methods, where)
            else:
                self.assertIn(node.attr, values, where)

    def test_walked_at_once(self):
        good = set()
        for where, node in self.each_node(ast.For, ast.comprehension):
            good.add(id(node.iter))
        for where, node in self.each_node(ast.Call):
            if isinstance(node.func, ast.Name) and node.func.id in WALKERS and node.args:
                good.add(id(node.args[0]))
        for where, node in self.each_node(ast.Call):
            if isinstance(node.func, ast.Name) and node.func.id in WALKED:
                self.assertIn(id(node), good, where)
            if isinstance(node.func, ast.Attribute) and node.func.attr in ("items", "keys", "values"):
                self.assertIn(id(node), good, where)

    def test_interface_is_written_in_its_own_file(self):
        places = [path.name for path, tree in self.trees.items() if "answers" in top_names(tree)]
        self.assertEqual(places, ["winds.py"])


if __name__ == "__main__":
    unittest.main()
