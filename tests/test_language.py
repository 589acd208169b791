"""The form of the package's code: the rules of its Python subset that a test can see."""

import ast
import builtins
import pathlib
import re
import unittest

ROOT = pathlib.Path(__file__).parent.parent / "hungwall"
LIBRARY = {
    "math": {"gcd", "lcm", "isqrt", "comb", "perm", "factorial"},
    "heapq": {"heappush", "heappop", "heapify", "heapreplace", "heappushpop"},
}
BUILTINS = set(
    "len range enumerate zip min max sum abs sorted reversed int str bool bytes list tuple dict set frozenset "
    "isinstance ord repr any all divmod pow Exception ValueError TypeError KeyError IndexError LookupError "
    "ZeroDivisionError ArithmeticError OverflowError RuntimeError NotImplementedError NotImplemented".split()
)
METHODS = set(
    "append clear copy count endswith extend find get index insert isalnum isalpha isdigit islower isspace isupper "
    "items join keys ljust lower lstrip partition pop remove replace reverse rfind rjust rpartition rsplit rstrip "
    "setdefault split splitlines startswith strip update upper values zfill bit_length isascii add discard".split()
)
CHANGING = set("append extend insert pop remove clear update setdefault reverse add discard".split())
SPECIAL = set(
    "__init__ __eq__ __repr__ __str__ __len__ __contains__ __lt__ __le__ __gt__ __ge__ __ne__ __call__ __iter__".split()
)
BARRED = set(
    "register mro elements open input law version_info with_traceback add_note attrgetter breakpoint builtins compile "
    "copyright credits delattr dir eval exec exit gc globals help id importlib license locals methodcaller os quit "
    "super type vars sys typing enum Enum dataclass overload contextmanager namedtuple object float map filter next "
    "iter hash round format print".split()
)
BARRED_NODES = (
    ast.GeneratorExp, ast.Global, ast.AsyncFunctionDef, ast.Await, ast.AsyncFor, ast.AsyncWith, ast.Div, ast.Import,
    ast.AnnAssign, ast.NamedExpr, ast.Starred,
)
WORDS = re.compile(r"\b(type|typing|enum|Enum|Flag|Generic|Protocol|ABC|namedtuple|NamedTuple|abstractmethod)\b")
AT_ONCE = {"range", "zip", "enumerate", "reversed", "items", "keys", "values"}
TAKES = set("list tuple dict sorted sum any all enumerate zip min max join reversed len".split())


def read_tree(text):
    """The tree of a file, each node with the one above it."""
    tree = ast.parse(text)
    for node in ast.walk(tree):
        for child in ast.iter_child_nodes(node):
            child.above = node
    return tree


PATHS = [path for path in sorted(ROOT.rglob("*")) if path.is_file() and "__pycache__" not in path.parts]
TEXTS = {path.name: path.read_text(encoding="ascii") for path in PATHS}
TREES = {name: read_tree(text) for name, text in TEXTS.items()}


def nodes(tree, *kinds):
    """All nodes of these kinds."""
    return [node for node in ast.walk(tree) if isinstance(node, kinds)]


def name_called(node):
    """The name of what a call calls: a plain name, or a method's; None for what is no call."""
    if not isinstance(node, ast.Call):
        return None
    return getattr(node.func, "id", getattr(node.func, "attr", None))


def defined(tree):
    """The names that a file binds at module level, imports left out."""
    found = {node.name for node in tree.body if isinstance(node, (ast.FunctionDef, ast.ClassDef))}
    assigned = [node for node in tree.body if isinstance(node, ast.Assign)]
    return found | {target.id for node in assigned for target in node.targets}


def imported(tree):
    """The list of the names that a file imports."""
    return [name.name for node in nodes(tree, ast.ImportFrom) for name in node.names]


def bound(tree):
    """The set of the names of all parameters and variables, and of caught errors."""
    stored = {node.id for node in nodes(tree, ast.Name) if isinstance(node.ctx, ast.Store)}
    caught = {node.name for node in nodes(tree, ast.ExceptHandler) if node.name}
    return stored | caught | {node.arg for node in nodes(tree, ast.arg)}


def own_names(*kinds):
    """The names of all functions, or classes, of the package."""
    return {node.name for tree in TREES.values() for node in nodes(tree, *kinds)}


def is_plain(node):
    """Whether an expression is a value that is written out."""
    try:
        ast.literal_eval(node)
    except ValueError:
        return isinstance(node, ast.Dict)
    return True


def of_each_file(check):
    """A test that checks the tree of each file of the package."""
    def test(self):
        for name, tree in TREES.items():
            with self.subTest(file=name):
                check(self, tree)
    return test


class Files(unittest.TestCase):
    def test_names(self):
        self.assertLessEqual(len(PATHS), 100)
        for path in PATHS:
            self.assertRegex(path.name, r"^[a-z0-9_]+\.py$")
            self.assertFalse(path.stem != "__init__" and hasattr(builtins, path.stem), path.name)

    def test_text(self):
        for name, text in TEXTS.items():
            with self.subTest(file=name):
                lines = text.split("\n")
                self.assertLessEqual(len(lines), 400)
                self.assertTrue(all(len(line) <= 120 and line == line.rstrip() for line in lines))
                self.assertTrue(all(sign == "\n" or " " <= sign <= "~" for sign in text))
                self.assertNotIn("_" + "wall", text)
                self.assertTrue(text.endswith("\n"))

    def test_no_ring_of_imports(self):
        needs = {}
        for name, tree in TREES.items():
            modules = {node.module for node in nodes(tree, ast.ImportFrom)} - set(LIBRARY)
            needs[name[:-3]] = {module.split(".")[1] for module in modules}
        while needs:
            free = {stem for stem, others in needs.items() if not others}
            self.assertTrue(free, needs)
            needs = {stem: others - free for stem, others in needs.items() if stem not in free}


class Language(unittest.TestCase):
    @of_each_file
    def test_imports(self, tree):
        for node in nodes(tree, ast.ImportFrom):
            names = {name.name for name in node.names}
            self.assertIn(node, tree.body)
            self.assertEqual((node.level, {name.asname for name in node.names}), (0, {None}))
            if node.module in LIBRARY:
                self.assertLessEqual(names, LIBRARY[node.module])
            else:
                package, stem = node.module.split(".")
                self.assertEqual(package, "hungwall")
                self.assertLessEqual(names, defined(TREES[stem + ".py"]))

    @of_each_file
    def test_imported_names(self, tree):
        names = imported(tree)
        classes = {node.name for node in nodes(tree, ast.ClassDef)}
        self.assertEqual(len(names), len(set(names)))
        self.assertFalse(set(names) & defined(tree))
        self.assertFalse((set(names) | classes) & bound(tree))
        self.assertLessEqual(set(names), {node.id for node in nodes(tree, ast.Name)})

    @of_each_file
    def test_module_level(self, tree):
        for at, node in enumerate(tree.body):
            if isinstance(node, ast.Assign):
                self.assertEqual([isinstance(target, ast.Name) for target in node.targets], [True])
                self.assertTrue(is_plain(node.value), ast.unparse(node))
            elif isinstance(node, ast.Expr):
                self.assertEqual((at, type(node.value.value)), (0, str))
            else:
                self.assertIsInstance(node, (ast.ImportFrom, ast.FunctionDef, ast.ClassDef))

    @of_each_file
    def test_tables_of_functions(self, tree):
        # A table at module level holds functions that the file itself defines above it.
        above = set()
        for node in tree.body:
            if isinstance(node, ast.Assign):
                self.assertLessEqual({name.id for name in nodes(node.value, ast.Name)}, above)
            elif isinstance(node, ast.FunctionDef):
                above.add(node.name)

    @of_each_file
    def test_functions(self, tree):
        for node in nodes(tree, ast.FunctionDef):
            self.assertLessEqual(node.end_lineno - node.lineno + 1, 40, node.name)
            self.assertEqual(node.decorator_list, [])
            self.assertTrue(node.name in SPECIAL or ast.get_docstring(node), node.name)
            if node.name.startswith("__"):
                self.assertIsInstance(node.above, ast.ClassDef)

    @of_each_file
    def test_statements_and_expressions(self, tree):
        self.assertEqual(nodes(tree, *BARRED_NODES), [])
        for node in nodes(tree, ast.Constant):
            self.assertIsInstance(node.value, (int, str, bytes, type(None)))
            if isinstance(node.value, str):
                self.assertNotIn(chr(37), node.value)
        for node in nodes(tree, ast.Compare):
            for sign, other in zip(node.ops, node.comparators):
                self.assertTrue(isinstance(other, ast.Constant) or not isinstance(sign, (ast.Is, ast.IsNot)))
        for node in nodes(tree, ast.BinOp):
            self.assertTrue(isinstance(node.right, ast.Constant) or not isinstance(node.op, ast.Pow))

    @of_each_file
    def test_names(self, tree):
        read = {node.id for node in nodes(tree, ast.Name) if isinstance(node.ctx, ast.Load)}
        self.assertLessEqual({name for name in read if hasattr(builtins, name)}, BUILTINS)
        names = bound(tree) | defined(tree)
        methods = {node.name for node in nodes(tree, ast.FunctionDef)}
        self.assertFalse((names | methods) & BARRED)
        # The underscore alone is assigned and never read.
        self.assertNotIn("_", read)
        for node in nodes(tree, ast.comprehension):
            self.assertNotIn("_", {name.id for name in nodes(node.target, ast.Name)})
        names.discard("_")
        self.assertFalse([name for name in names if hasattr(builtins, name) or name.startswith("_")])
        self.assertFalse([name for name in methods - SPECIAL if name.startswith("_")])
        self.assertFalse({node.attr for node in nodes(tree, ast.Attribute)} & BARRED)

    @of_each_file
    def test_words(self, tree):
        homes = nodes(tree, ast.Module, ast.ClassDef, ast.FunctionDef)
        docs = [node.body[0].value for node in homes if ast.get_docstring(node) is not None]
        for node in nodes(tree, ast.Constant):
            if isinstance(node.value, str) and node not in docs:
                self.assertIsNone(WORDS.search(node.value))

    @of_each_file
    def test_methods_called(self, tree):
        called = {node.func.attr for node in nodes(tree, ast.Call) if isinstance(node.func, ast.Attribute)}
        self.assertLessEqual(called, METHODS | own_names(ast.FunctionDef))

    @of_each_file
    def test_iterated_at_once(self, tree):
        for node in nodes(tree, ast.Call):
            if name_called(node) in AT_ONCE and not isinstance(node.above, (ast.For, ast.comprehension)):
                self.assertIn(name_called(node.above), TAKES, ast.unparse(node))

    @of_each_file
    def test_sets(self, tree):
        calls = [node for node in nodes(tree, ast.Call) if name_called(node) == "set"]
        for node in calls + nodes(tree, ast.Set, ast.SetComp):
            if not isinstance(node.above, (ast.Assign, ast.Compare)):
                self.assertIn(name_called(node.above), ("sorted", "len"), ast.unparse(node))

    @of_each_file
    def test_errors(self, tree):
        own = own_names(ast.ClassDef)
        for node in nodes(tree, ast.ExceptHandler):
            self.assertIn(node.type.id, own | {"KeyError", "ZeroDivisionError"})
        for node in nodes(tree, ast.Raise):
            self.assertTrue(node.exc is None or name_called(node.exc) in own)

    @of_each_file
    def test_what_a_loop_goes_over_is_left_alone(self, tree):
        for loop in nodes(tree, ast.For):
            over = {node.id for node in nodes(loop.iter, ast.Name)}
            inside = [node for row in loop.body for node in nodes(row, ast.Call, ast.Subscript)]
            for node in inside:
                if isinstance(node, ast.Subscript) and not isinstance(node.ctx, ast.Load):
                    self.assertNotIn(ast.unparse(node.value), over)
                elif isinstance(getattr(node, "func", None), ast.Attribute) and node.func.attr in CHANGING:
                    self.assertNotIn(ast.unparse(node.func.value), over)


if __name__ == "__main__":
    unittest.main()
