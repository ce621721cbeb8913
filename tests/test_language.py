"""The files of the package keep to the plain rules of the language, as far as they can be read off."""

import ast
import builtins
import keyword
import re
import unittest
from pathlib import Path

PACKAGE = Path(__file__).resolve().parent.parent / "tiewheel"
USED_BUILTINS = set(
    "len range enumerate zip min max sum abs sorted reversed int str bool bytes list tuple dict set frozenset isinstance"
    " ord repr any all divmod pow getattr hasattr setattr iter next map super Exception ValueError TypeError KeyError"
    " IndexError LookupError ZeroDivisionError ArithmeticError OverflowError RuntimeError NotImplementedError"
    " AttributeError StopIteration NotImplemented".split()
)
USED_METHODS = set(
    "append clear copy count endswith extend find get index insert isalnum isalpha isdigit islower isspace isupper items"
    " join keys ljust lower lstrip partition pop remove replace reverse rfind rjust rpartition rsplit rstrip setdefault"
    " split splitlines startswith strip update upper values zfill bit_length add discard from_iterable isdecimal".split()
)
LIBRARY = {
    "heapq": {"heappush", "heappop", "heapify", "heapreplace", "heappushpop"},
    "math": {"gcd", "lcm", "isqrt", "comb", "perm", "factorial"},
    "itertools": {"product", "combinations", "permutations", "chain", "accumulate", "pairwise", "islice", "zip_longest"},
    "collections": {"defaultdict"},
}
BARRED_NAMES = set(
    "register mro elements open input law version_info with_traceback add_note attrgetter breakpoint builtins compile"
    " copyright credits delattr dir eval exec exit gc globals help id importlib license locals methodcaller os quit type"
    " vars sys _cold _tuplegetter _outside _record _written_out _member_names".split()
)
BARRED_WORDS = re.compile(
    r"\b(type|typing|typing_extensions|enum|Enum|IntEnum|StrEnum|Flag|IntFlag|Generic|Protocol|ABC|ABCMeta|namedtuple"
    r"|NamedTuple|TypedDict|TYPE_CHECKING|abstractmethod|_wall|_WallAttr)\b|dataclass|overload|contextmanager"
)
AT_ONCE = {"list", "tuple", "dict", "sorted", "sum", "any", "all", "enumerate", "zip", "min", "max"}
BOUND_METHODS = {"append", "extend", "insert", "pop", "remove", "clear", "reverse", "update", "setdefault"}


def files():
    return sorted(PACKAGE.rglob("*.py"))


def trees():
    for path in files():
        tree = ast.parse(path.read_text(encoding="utf-8"))
        for node in ast.walk(tree):
            for child in ast.iter_child_nodes(node):
                child.parent = node
        yield path, tree


def is_docstring(node):
    return isinstance(node.parent, ast.Expr)


def bound_names(tree):
    for node in ast.walk(tree):
        if isinstance(node, (ast.FunctionDef, ast.ClassDef)):
            yield node.name
        elif isinstance(node, ast.arg):
            yield node.arg
        elif isinstance(node, ast.Name) and isinstance(node.ctx, ast.Store):
            yield node.id
        elif isinstance(node, ast.alias):
            yield node.asname or node.name
        elif isinstance(node, ast.MatchAs) and node.name:
            yield node.name


class TestNames(unittest.TestCase):
    def test_no_name_of_a_builtin_or_barred_is_bound(self):
        for path, tree in trees():
            for name in bound_names(tree):
                self.assertFalse(name in dir(builtins) or keyword.iskeyword(name), (path, name))
                self.assertNotIn(name, BARRED_NAMES, path)
                self.assertRegex(name, r"^(_|_?[A-Za-z][A-Za-z0-9_]*|__init__|__len__|__eq__|__str__)$")

    def test_no_local_name_is_that_of_an_import_or_a_class(self):
        for path, tree in trees():
            taken = {node.name for node in tree.body if isinstance(node, ast.ClassDef)}
            for node in tree.body:
                if isinstance(node, ast.ImportFrom):
                    taken |= {alias.asname or alias.name for alias in node.names}
            for function in [node for node in ast.walk(tree) if isinstance(node, ast.FunctionDef)]:
                local = set(bound_names(ast.Module(body=function.body, type_ignores=[])))
                local |= {arg.arg for arg in ast.walk(function.args) if isinstance(arg, ast.arg)}
                self.assertFalse(local & taken, (path, function.name, local & taken))

    def test_module_level_names_are_bound_once(self):
        for path, tree in trees():
            names = [node.targets[0].id for node in tree.body if isinstance(node, ast.Assign)]
            names += [node.name for node in tree.body if isinstance(node, (ast.FunctionDef, ast.ClassDef))]
            for node in tree.body:
                if isinstance(node, ast.ImportFrom):
                    names += [alias.asname or alias.name for alias in node.names]
            self.assertEqual(len(names), len(set(names)), path)

    def test_just_the_builtins_and_methods_of_the_language(self):
        own = {node.name for _, tree in trees() for node in ast.walk(tree)
               if isinstance(node, ast.FunctionDef) and isinstance(node.parent, ast.ClassDef)}
        for path, tree in trees():
            known = set(bound_names(tree)) | USED_BUILTINS
            for node in ast.walk(tree):
                if isinstance(node, ast.Name):
                    self.assertIn(node.id, known, path)
                if isinstance(node, ast.Call) and isinstance(node.func, ast.Attribute):
                    self.assertIn(node.func.attr, USED_METHODS | own, (path, node.lineno))

    def test_no_barred_word(self):
        for path, tree in trees():
            for node in ast.walk(tree):
                if isinstance(node, ast.Constant) and isinstance(node.value, str):
                    self.assertNotIn("%", node.value, (path, node.lineno))
                    if not is_docstring(node):
                        self.assertIsNone(BARRED_WORDS.search(node.value), (path, node.value))
                for name in [getattr(node, part, None) for part in ("id", "attr", "arg", "name")]:
                    if isinstance(name, str):
                        self.assertIsNone(BARRED_WORDS.search(name), (path, name))
            self.assertNotIn("_wall", path.read_text(encoding="utf-8"))


class TestImports(unittest.TestCase):
    def test_each_imported_name_is_used_and_defined_where_it_comes_from(self):
        for path, tree in trees():
            used = {node.id for node in ast.walk(tree) if isinstance(node, ast.Name)}
            for node in tree.body:
                if isinstance(node, ast.ImportFrom):
                    names = {alias.name for alias in node.names}
                    self.assertTrue(all(alias.asname is None for alias in node.names), path)
                    self.assertFalse(names - used, (path, names - used))
                    if node.module in LIBRARY:
                        self.assertTrue(names <= LIBRARY[node.module], path)
                    else:
                        other = PACKAGE.parent / (node.module.replace(".", "/") + ".py")
                        body = ast.parse(other.read_text(encoding="utf-8")).body
                        there = {part.name for part in body if isinstance(part, (ast.FunctionDef, ast.ClassDef))}
                        there |= {part.targets[0].id for part in body if isinstance(part, ast.Assign)}
                        self.assertTrue(names <= there, (path, names - there))

    def test_no_two_files_import_from_each_other(self):
        near = {}
        for path, tree in trees():
            name = ".".join(path.relative_to(PACKAGE.parent).with_suffix("").parts)
            near[name] = {node.module for node in tree.body if isinstance(node, ast.ImportFrom)}
        for start in near:
            met, queue = set(), [start]
            while queue:
                for other in near.get(queue.pop(), ()):
                    self.assertNotEqual(other, start)
                    if other not in met:
                        met.add(other)
                        queue.append(other)


class TestForms(unittest.TestCase):
    def test_no_form_beyond_the_language(self):
        barred = (
            ast.Global, ast.AsyncFunctionDef, ast.Await, ast.GeneratorExp, ast.Yield, ast.YieldFrom, ast.Import, ast.Div,
            ast.Try, ast.With, ast.Lambda, ast.NamedExpr, ast.AnnAssign, ast.Set, ast.SetComp, ast.Nonlocal, ast.Starred,
        )
        for path, tree in trees():
            for node in ast.walk(tree):
                if isinstance(node, ast.Starred) and isinstance(node.parent, (ast.Tuple, ast.List)):
                    continue
                self.assertNotIsInstance(node, barred, (path, getattr(node, "lineno", None)))
                if isinstance(node, ast.Constant):
                    self.assertNotIsInstance(node.value, (float, complex, bytes), path)
                if isinstance(node, ast.FunctionDef):
                    self.assertEqual(node.decorator_list, [])
                    self.assertIsInstance(node.parent, (ast.Module, ast.ClassDef))
                    self.assertTrue(ast.get_docstring(node) or node.name == "__init__", (path, node.name))
                if isinstance(node, ast.Compare) and any(isinstance(op, (ast.Is, ast.IsNot)) for op in node.ops):
                    self.assertIsInstance(node.comparators[0], ast.Constant)

    def test_what_is_iterated_at_once(self):
        for path, tree in trees():
            for node in ast.walk(tree):
                if not isinstance(node, ast.Call):
                    continue
                name = getattr(node.func, "id", None) or getattr(node.func, "attr", None)
                if name not in ("zip", "enumerate", "reversed", "map", "items", "keys", "values", "from_iterable", "chain"):
                    continue
                parent = node.parent
                fits = isinstance(parent, (ast.For, ast.comprehension)) and parent.iter is node
                if isinstance(parent, ast.Call):
                    fits = getattr(parent.func, "id", None) in AT_ONCE and parent.args[0] is node
                self.assertTrue(fits, (path, node.lineno, name))

    def test_ranges_are_iterated_at_once(self):
        for path, tree in trees():
            for node in ast.walk(tree):
                if isinstance(node, ast.Call) and getattr(node.func, "id", None) == "range":
                    parent = node.parent
                    fits = isinstance(parent, (ast.For, ast.comprehension))
                    if isinstance(parent, ast.Call):
                        fits = getattr(parent.func, "id", None) in AT_ONCE | {"len", "reversed"}
                    self.assertTrue(fits, (path, node.lineno))

    def test_sets_stand_in_sorted_or_len_or_are_tested(self):
        for path, tree in trees():
            for node in ast.walk(tree):
                if isinstance(node, ast.Call) and getattr(node.func, "id", None) == "set":
                    parent = node.parent
                    while isinstance(parent, ast.BinOp):
                        parent = parent.parent
                    fits = isinstance(parent, ast.Compare)
                    if isinstance(parent, ast.Call):
                        fits = getattr(parent.func, "id", None) in ("sorted", "len") and not parent.keywords
                    if isinstance(parent, ast.Assign):
                        fits = self.is_stored_well(parent)
                    self.assertTrue(fits, (path, node.lineno))

    def is_stored_well(self, assign):
        """A set that is kept: one plain name, used by add, discard, in, len, sorted alone."""
        name = assign.targets[0].id
        function = assign.parent
        while not isinstance(function, ast.FunctionDef):
            function = function.parent
        for node in ast.walk(function):
            if isinstance(node, ast.Name) and node.id == name and node is not assign.targets[0]:
                parent = node.parent
                if isinstance(parent, ast.Attribute) and parent.attr in ("add", "discard"):
                    continue
                if isinstance(parent, ast.Compare) and isinstance(parent.ops[0], (ast.In, ast.NotIn)):
                    continue
                if isinstance(parent, ast.Call) and getattr(parent.func, "id", None) in ("len", "sorted"):
                    continue
                return False
        return True

    def test_what_a_loop_goes_over_is_not_changed_in_it(self):
        for path, tree in trees():
            for loop in [node for node in ast.walk(tree) if isinstance(node, ast.For)]:
                over = {node.id for node in ast.walk(loop.iter) if isinstance(node, ast.Name)}
                if isinstance(loop.iter, ast.Call) and getattr(loop.iter.func, "id", None) in ("list", "range"):
                    continue
                for node in ast.walk(ast.Module(body=loop.body, type_ignores=[])):
                    if isinstance(node, ast.Subscript) and isinstance(node.ctx, ast.Store):
                        root = node.value
                        self.assertNotIn(getattr(root, "id", None), over, (path, node.lineno))
                    if isinstance(node, ast.Call) and getattr(node.func, "attr", None) in BOUND_METHODS:
                        self.assertNotIn(getattr(node.func.value, "id", None), over, (path, node.lineno))

    def test_keywords_of_builtins(self):
        allowed = {"sorted": {"key", "reverse"}, "min": {"key", "default"}, "max": {"key", "default"}, "sum": {"start"},
                   "enumerate": {"start"}, "zip": {"strict"}}
        for path, tree in trees():
            for node in ast.walk(tree):
                if isinstance(node, ast.Call) and getattr(node.func, "id", None) in USED_BUILTINS:
                    words = {word.arg for word in node.keywords}
                    self.assertTrue(words <= allowed.get(node.func.id, set()), (path, node.lineno))

    def test_exponents_and_shifts_are_plain(self):
        for path, tree in trees():
            for node in ast.walk(tree):
                if isinstance(node, ast.BinOp) and isinstance(node.op, ast.Pow):
                    self.assertIsInstance(node.right, ast.Constant, (path, node.lineno))


if __name__ == "__main__":
    unittest.main()
