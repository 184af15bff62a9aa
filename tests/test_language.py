"""A part of the language's rules: those that are easily checked on the text and the tree of each file."""

import ast
import builtins
import os
import re
import unittest

FOLDER = os.path.join(os.path.dirname(os.path.dirname(os.path.abspath(__file__))), "neartwins")
BUILTINS = set(
    "len range enumerate zip min max sum abs sorted reversed int str bool list tuple dict set frozenset isinstance ord "
    "repr any all divmod ValueError KeyError IndexError LookupError ZeroDivisionError ArithmeticError "
    "OverflowError RuntimeError NotImplementedError TypeError NotImplemented".split()
)
METHODS = set(
    "append clear copy count endswith extend find get index insert isalnum isalpha isdigit islower isspace isupper "
    "items join keys ljust lower lstrip partition pop remove replace reverse rfind rjust rpartition rsplit rstrip "
    "setdefault split splitlines startswith strip update upper values zfill bit_length add discard sort".split()
)
DOUBLED = {"__init__", "__eq__", "__repr__", "__str__", "__len__"}
LAZY = {"range", "zip", "enumerate", "reversed", "items", "keys", "values"}
ITERATING = {"list", "tuple", "dict", "sorted", "sum", "any", "all", "enumerate", "zip", "min", "max"}
BARRED = re.compile(
    r"\b(type|typing|typing_extensions|enum|Enum|IntEnum|StrEnum|Flag|IntFlag|Generic|Protocol|ABC|ABCMeta|namedtuple"
    r"|NamedTuple|TypedDict|TYPE_CHECKING|abstractmethod)\b|dataclass|overload|contextmanager"
)
STATEMENTS = (ast.ImportFrom, ast.FunctionDef, ast.ClassDef, ast.Assign)
# The language lets some of these by, under narrow rules; the program does without, so that none of those need checking.
UNUSED = (
    ast.Global, ast.AsyncFunctionDef, ast.AsyncFor, ast.AsyncWith, ast.Await, ast.Import, ast.Div, ast.GeneratorExp,
    ast.SetComp, ast.Try, ast.AnnAssign, ast.NamedExpr, ast.Lambda, ast.Yield, ast.YieldFrom, ast.Pow,
    ast.Match, ast.With,
)


def sources():
    """The text of each file of the package, by its name."""
    found = {}
    for name in sorted(os.listdir(FOLDER)):
        if name != "__pycache__":
            with open(os.path.join(FOLDER, name), encoding="utf-8") as file:
                found[name] = file.read()
    return found


def bound_at_top(tree):
    """The names that a file binds, imports among them, each as often as it is bound."""
    names = []
    for each in tree.body:
        if isinstance(each, (ast.FunctionDef, ast.ClassDef)):
            names.append(each.name)
        elif isinstance(each, ast.ImportFrom):
            names.extend(alias.asname or alias.name for alias in each.names)
        elif isinstance(each, ast.Assign):
            names.extend(target.id for target in each.targets)
    return names


def bound_within(function):
    """The parameters and the local variables of a function."""
    names = {each.arg for each in ast.walk(function) if isinstance(each, ast.arg)}
    return names | {
        each.id for each in ast.walk(function) if isinstance(each, ast.Name) and isinstance(each.ctx, ast.Store)
    }


def iterated_at_once(tree):
    """The calls that stand where what they give is iterated on the spot."""
    found = []
    for node in ast.walk(tree):
        if isinstance(node, (ast.For, ast.comprehension)):
            found.append(node.iter)
        elif isinstance(node, ast.Call) and isinstance(node.func, ast.Name) and node.func.id in ITERATING:
            found.extend(node.args)
    return found


class Files(unittest.TestCase):
    def test_names_of_files(self):
        self.assertIn("__init__.py", sources())
        for name in sources():
            self.assertRegex(name, r"\A[a-z_][a-z0-9_]*\.py\Z")

    def test_signs_and_sizes(self):
        for name, text in sources().items():
            with self.subTest(name):
                self.assertRegex(text, r"\A[ -~\n]*\Z")
                self.assertLessEqual(len(text.splitlines()), 400)
                self.assertLessEqual(max(len(row) for row in text.splitlines()), 120)
                self.assertIsNone(BARRED.search(text))


class Trees(unittest.TestCase):
    def setUp(self):
        self.trees = {name: ast.parse(text) for name, text in sources().items()}

    def nodes(self, *kinds):
        """All nodes of these kinds, with the names of their files."""
        for name, tree in self.trees.items():
            for node in ast.walk(tree):
                if isinstance(node, kinds):
                    yield name, node

    def test_top_of_files(self):
        for name, tree in self.trees.items():
            self.assertIsNotNone(ast.get_docstring(tree), name)
            for each in tree.body[1:]:
                self.assertIsInstance(each, STATEMENTS, name)
            names = bound_at_top(tree)
            self.assertEqual(len(names), len(set(names)), name)

    def test_imports(self):
        reached = {}
        for name, tree in self.trees.items():
            reached[name] = set()
            for each in tree.body:
                if isinstance(each, ast.ImportFrom):
                    self.assertRegex(each.module, r"\Aneartwins\.[a-z_]+\Z")
                    other = each.module.split(".")[1] + ".py"
                    reached[name].add(other)
                    own = [
                        node for node in self.trees[other].body if isinstance(node, STATEMENTS[1:])
                    ]
                    defined = bound_at_top(ast.Module(body=own, type_ignores=[]))
                    for alias in each.names:
                        self.assertIn(alias.name, defined)
        # Files that import nothing which is still there are taken away until none is left: so there is no ring.
        while reached:
            free = [name for name in reached if not reached[name] & set(reached)]
            self.assertTrue(free, f"a ring of imports among {sorted(reached)}")
            for name in free:
                del reached[name]

    def test_sizes_of_functions(self):
        for name, node in self.nodes(ast.FunctionDef):
            self.assertLessEqual(node.end_lineno - node.lineno + 1, 40, (name, node.name))
            self.assertEqual(node.decorator_list, [])

    def test_unused_forms(self):
        for name, node in self.nodes(*UNUSED):
            self.fail(f"{name}: {ast.dump(node)}")

    def test_constants(self):
        for name, node in self.nodes(ast.Constant):
            self.assertNotIsInstance(node.value, (float, complex, bytes), name)
            if isinstance(node.value, str):
                self.assertNotIn("%", node.value, name)

    def test_sameness_only_of_single_values(self):
        for name, node in self.nodes(ast.Compare):
            for sign, other in zip(node.ops, node.comparators):
                if isinstance(sign, (ast.Is, ast.IsNot)):
                    self.assertIsInstance(other, ast.Constant, name)
                    self.assertIn(other.value, (None, True, False), name)

    def test_nothing_lazy_is_kept(self):
        for name, tree in self.trees.items():
            at_once = iterated_at_once(tree)
            for node in ast.walk(tree):
                if isinstance(node, ast.Call):
                    called = node.func.id if isinstance(node.func, ast.Name) else getattr(node.func, "attr", "")
                    if called in LAZY:
                        self.assertIn(node, at_once, (name, node.lineno))

    def test_names(self):
        for name, tree in self.trees.items():
            known = set(bound_at_top(tree)) | BUILTINS
            for function in [node for node in ast.walk(tree) if isinstance(node, ast.FunctionDef)]:
                if not function.name.startswith("_"):
                    self.assertRegex(function.name, r"\A[a-z][a-z0-9_]*\Z", name)
                else:
                    self.assertIn(function.name, DOUBLED, name)
                own = bound_within(function)
                for each in own:
                    self.assertRegex(each, r"\A[a-z][a-z0-9_]*\Z", name)
                    self.assertNotIn(each, dir(builtins), name)
                    self.assertNotIn(each, bound_at_top(tree), name)
                for node in ast.walk(function):
                    if isinstance(node, ast.Name) and isinstance(node.ctx, ast.Load):
                        self.assertIn(node.id, own | known, name)

    def test_methods_and_attributes(self):
        methods = set()
        for name, node in self.nodes(ast.ClassDef):
            methods |= {each.name for each in node.body if isinstance(each, ast.FunctionDef)}
        stored = {
            node.attr for name, node in self.nodes(ast.Attribute) if isinstance(node.ctx, ast.Store)
        }
        self.assertEqual(methods & stored, set())
        self.assertEqual((methods | stored) & set(dir(str) + dir(int) + dir(dict)) - DOUBLED, set())
        for name, node in self.nodes(ast.Attribute):
            self.assertIn(node.attr, methods | stored | METHODS, name)
            self.assertFalse(node.attr.startswith("_"), name)


if __name__ == "__main__":
    unittest.main()
