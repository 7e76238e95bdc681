"""The rules of the language subset that a look at the files can decide, for every file of the package."""

import ast
import builtins
import re
import unittest
from pathlib import Path

PACKAGE = Path(__file__).resolve().parent.parent / "eachheight"
FILES = sorted(path for path in PACKAGE.rglob("*") if "__pycache__" not in path.parts)
TREES = {path.stem: ast.parse(path.read_text(encoding="utf-8")) for path in FILES if path.suffix == ".py"}

LIBRARY = {
    "heapq": {"heappush", "heappop", "heapify", "heapreplace", "heappushpop"},
    "math": {"gcd", "lcm", "isqrt", "comb", "perm", "factorial"},
    "itertools": {"product", "combinations", "permutations", "chain", "accumulate", "pairwise", "islice",
                  "zip_longest"},
    "collections": {"defaultdict"},
}
BUILTINS = set(
    "len range enumerate zip min max sum abs sorted reversed int str bool list tuple dict set isinstance ord "
    "repr any all divmod pow map iter next getattr hasattr setattr Exception ValueError TypeError KeyError "
    "IndexError LookupError ZeroDivisionError ArithmeticError OverflowError RuntimeError NotImplementedError "
    "AttributeError StopIteration NotImplemented".split()
)
METHODS = set(
    "append clear copy count endswith extend find get index insert isalnum isalpha isdigit islower isspace "
    "isupper items join keys ljust lower lstrip partition pop remove replace reverse rfind rjust rpartition "
    "rsplit rstrip setdefault split splitlines startswith strip update upper values zfill bit_length title "
    "capitalize swapcase casefold center expandtabs removeprefix removesuffix rindex isascii isdecimal "
    "isnumeric istitle isidentifier isprintable sort add discard".split()
)
DUNDERS = {"__init__", "__eq__", "__repr__", "__str__", "__len__", "__enter__", "__exit__", "__call__", "__iter__"}
UNUSED_NAMES = set(
    "register mro elements open input law version_info with_traceback add_note attrgetter breakpoint builtins "
    "compile copyright credits delattr dir eval exec exit gc globals help id importlib license locals "
    "methodcaller os quit super type vars sys".split()
)
UNUSED_WORDS = set(
    "typing typing_extensions enum Enum IntEnum StrEnum Flag IntFlag Generic Protocol ABC ABCMeta namedtuple "
    "NamedTuple TypedDict TYPE_CHECKING abstractmethod dataclass overload contextmanager".split()
)
STATEMENTS = (
    ast.Assign, ast.AnnAssign, ast.AugAssign, ast.If, ast.While, ast.For, ast.Return, ast.Break, ast.Continue,
    ast.Pass, ast.Raise, ast.Assert, ast.Delete, ast.Nonlocal, ast.Match, ast.With, ast.Try, ast.Expr,
    ast.FunctionDef, ast.ClassDef, ast.ImportFrom,
)
BARRED = (ast.Global, ast.AsyncFunctionDef, ast.Await, ast.AsyncFor, ast.AsyncWith, ast.Import, ast.Div)

UNUSED_ATTRIBUTES = set(
    "items keys values pop update append clear extend insert remove reverse setdefault sort args encode decode hex "
    "fromhex format".split()
)
ITERATED = ("zip", "enumerate", "reversed", "range", "map", "items", "keys", "values")
ITERATING = ("list", "tuple", "dict", "sorted", "sum", "any", "all", "enumerate", "zip", "min", "max")
CHANGING = ("append", "extend", "insert", "pop", "remove", "clear", "update", "setdefault", "reverse")


def nodes(*kinds):
    """Return (file, node) for all nodes of these kinds."""
    return [(name, node) for name, tree in TREES.items() for node in ast.walk(tree) if isinstance(node, kinds)]


def called(node):
    """Return the name of the function or method that a call calls, or None."""
    if not isinstance(node, ast.Call):
        return None
    return node.func.id if isinstance(node.func, ast.Name) else getattr(node.func, "attr", None)


def bound_names():
    """Return (file, name) for all that is bound, attributes and methods left out."""
    found = [(name, node.id) for name, node in nodes(ast.Name) if not isinstance(node.ctx, ast.Load)]
    found += [(name, node.arg) for name, node in nodes(ast.arg)]
    for name, node in nodes(ast.FunctionDef, ast.ClassDef):
        found.append((name, node.name))
    return found


class LanguageTest(unittest.TestCase):
    def test_files(self):
        for path in FILES:
            self.assertEqual(path.parent, PACKAGE)
            self.assertRegex(path.name, r"^[a-z0-9_]+\.py$")
            text = path.read_text(encoding="utf-8")
            self.assertRegex(text, r"\A[ -~\n]*\Z")
            lines = text.split("\n")
            self.assertLessEqual(len(lines), 399)
            self.assertLessEqual(max(len(line) for line in lines), 120, path.name)
        self.assertIn("__init__", TREES)

    def test_imports_name_the_defining_file(self):
        for name, node in nodes(ast.ImportFrom):
            self.assertEqual(node.level, 0)
            self.assertIn(node, TREES[name].body)
            for alias in node.names:
                self.assertIsNone(alias.asname)
                if node.module in LIBRARY:
                    self.assertIn(alias.name, LIBRARY[node.module])
                    continue
                top, file = node.module.split(".")
                self.assertEqual(top, "eachheight")
                self.assertIn(alias.name, self.defined(file))

    def defined(self, file):
        found = set()
        for node in TREES[file].body:
            if isinstance(node, (ast.FunctionDef, ast.ClassDef)):
                found.add(node.name)
            if isinstance(node, ast.Assign):
                found.update(target.id for target in node.targets)
        return found

    def test_no_import_cycles(self):
        above = {name: set() for name in TREES}
        for name, node in nodes(ast.ImportFrom):
            if node.module not in LIBRARY:
                above[name].add(node.module.split(".")[1])
        while above:
            free = [name for name in above if not above[name] & set(above)]
            self.assertTrue(free, above)
            above = {name: above[name] for name in above if name not in free}

    def test_module_level(self):
        for name, tree in TREES.items():
            bound = []
            for at, node in enumerate(tree.body):
                if at == 0 and isinstance(node, ast.Expr):
                    self.assertIsInstance(node.value.value, str)
                    continue
                self.assertIsInstance(node, (ast.ImportFrom, ast.FunctionDef, ast.ClassDef, ast.Assign), name)
                if isinstance(node, ast.ImportFrom):
                    bound += [alias.name for alias in node.names]
                elif isinstance(node, ast.Assign):
                    self.assertEqual(len(node.targets), 1)
                    bound.append(node.targets[0].id)
                else:
                    bound.append(node.name)
            self.assertEqual(len(bound), len(set(bound)), name)

    def test_statements(self):
        for name, node in nodes(ast.stmt):
            self.assertIsInstance(node, STATEMENTS, name)
        self.assertEqual(nodes(*BARRED), [])
        for name, node in nodes(ast.ExceptHandler):
            self.assertIsNotNone(node.type, name)

    def test_functions(self):
        for name, node in nodes(ast.FunctionDef):
            self.assertLessEqual(node.end_lineno - node.lineno + 1, 40, (name, node.name))
            for decorator in node.decorator_list:
                self.assertRegex(ast.unparse(decorator), r"^(property|staticmethod|classmethod|\w+\.setter)$")
        for name, node in nodes(ast.ClassDef):
            self.assertEqual(node.decorator_list, [])
            for part in node.body:
                if isinstance(part, ast.FunctionDef) and part.name.startswith("__"):
                    self.assertIn(part.name, DUNDERS)

    def test_builtins(self):
        for name, node in nodes(ast.Name):
            if node.id in vars(builtins) and isinstance(node.ctx, ast.Load):
                self.assertIn(node.id, BUILTINS, name)

    def test_bound_names(self):
        methods = {
            (name, part.name) for name, node in nodes(ast.ClassDef)
            for part in node.body if isinstance(part, ast.FunctionDef)
        }
        for name, bound in bound_names():
            if (name, bound) not in methods:
                self.assertNotIn(bound, vars(builtins), name)
                self.assertFalse(bound.startswith("__"), (name, bound))
                self.assertRegex(bound, r"^(_|_?[A-Za-z][A-Za-z0-9_]*)$")
            self.assertNotIn(bound, UNUSED_NAMES, name)
        for name, node in nodes(ast.Name):
            self.assertFalse(node.id == "_" and isinstance(node.ctx, ast.Load), name)

    def test_attributes(self):
        own = {node.name for _, node in nodes(ast.FunctionDef)}
        own |= {node.attr for _, node in nodes(ast.Attribute) if isinstance(node.ctx, ast.Store)}
        for name, node in nodes(ast.Attribute):
            self.assertIn(node.attr, METHODS | own | {"__init__"}, name)

    def test_no_name_is_a_method_and_an_attribute(self):
        methods = {
            part.name for _, node in nodes(ast.ClassDef) for part in node.body if isinstance(part, ast.FunctionDef)
        }
        stored = {node.attr for _, node in nodes(ast.Attribute) if isinstance(node.ctx, ast.Store)}
        self.assertEqual(methods & stored, set())
        self.assertEqual(stored & UNUSED_ATTRIBUTES, set())

    def test_no_local_name_is_that_of_an_import_or_a_class(self):
        for name, tree in TREES.items():
            above = {alias.name for node in tree.body if isinstance(node, ast.ImportFrom) for alias in node.names}
            above |= {node.name for node in tree.body if isinstance(node, ast.ClassDef)}
            for function in [node for node in ast.walk(tree) if isinstance(node, ast.FunctionDef)]:
                bound = {node.arg for node in ast.walk(function) if isinstance(node, ast.arg)}
                bound |= {
                    node.id for node in ast.walk(function)
                    if isinstance(node, ast.Name) and isinstance(node.ctx, ast.Store)
                }
                self.assertEqual(bound & above, set(), (name, function.name))

    def test_iterated_at_once(self):
        for name, tree in TREES.items():
            above = {part: node for node in ast.walk(tree) for part in ast.iter_child_nodes(node)}
            for node in ast.walk(tree):
                if isinstance(node, ast.Call) and called(node) in ITERATED:
                    outer = above[node]
                    at_once = isinstance(outer, (ast.For, ast.comprehension)) and outer.iter is node
                    self.assertTrue(at_once or called(outer) in ITERATING, (name, node.lineno))
                if isinstance(node, ast.Call) and called(node) == "set":
                    self.assertIn(called(above[node]), ("sorted", "len"), (name, node.lineno))

    def test_a_loop_does_not_change_what_it_iterates_over(self):
        for name, node in nodes(ast.For):
            over = {ast.unparse(part) for part in ast.walk(node.iter) if isinstance(part, (ast.Name, ast.Attribute))}
            if called(node.iter) == "list":
                continue
            for part in [part for row in node.body for part in ast.walk(row)]:
                if isinstance(part, ast.Call) and called(part) in CHANGING:
                    self.assertNotIn(ast.unparse(part.func.value), over, (name, part.lineno))
                if isinstance(part, ast.Subscript) and isinstance(part.ctx, ast.Store):
                    self.assertNotIn(ast.unparse(part.value), over, (name, part.lineno))

    def test_words(self):
        docs = [ast.get_docstring(node, clean=False) for _, node in nodes(ast.Module, ast.FunctionDef, ast.ClassDef)]
        for name, node in nodes(ast.Constant):
            if isinstance(node.value, str) and node.value not in docs:
                self.assertNotIn("%", node.value, name)
                self.assertIsNone(re.match(r"^__.*__$", node.value), name)
        for path in FILES:
            text = path.read_text(encoding="utf-8")
            self.assertNotRegex(text, r"_wall|_WallAttr")
            for word in UNUSED_WORDS:
                self.assertNotRegex(text, rf"\b{word}\b")
        for name, node in nodes(ast.Constant):
            self.assertNotIsInstance(node.value, (float, complex, bytes))

    def test_sets_are_not_iterated(self):
        for name, node in nodes(ast.For, ast.comprehension):
            self.assertNotIsInstance(node.iter, (ast.Set, ast.SetComp), name)
            if isinstance(node.iter, ast.Call) and isinstance(node.iter.func, ast.Name):
                self.assertNotEqual(node.iter.func.id, "set", name)

    def test_is_only_with_none_true_and_false(self):
        for name, node in nodes(ast.Compare):
            for operator, right in zip(node.ops, node.comparators):
                if isinstance(operator, (ast.Is, ast.IsNot)):
                    self.assertIn(getattr(right, "value", 0), (None, True, False), name)
