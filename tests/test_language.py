"""Some rules of LANGUAGE.md that a test can see, for every file of the package.

Of builtins and methods those stand here that are of use; LANGUAGE.md lets some more.
"""

import ast
import builtins
import os
import unittest

PACKAGE = "facenumbers"
FOLDER = os.path.join(os.path.dirname(os.path.dirname(os.path.abspath(__file__))), PACKAGE)
BUILTINS = set(
    "len range enumerate zip min max sum abs sorted reversed int str bool list tuple dict set isinstance ord repr "
    "any all divmod map iter next Exception ValueError TypeError KeyError IndexError LookupError "
    "ZeroDivisionError ArithmeticError OverflowError RuntimeError NotImplementedError".split()
)
LIBRARY = {
    "heapq": {"heappush", "heappop", "heapify", "heapreplace", "heappushpop"},
    "math": {"gcd", "lcm", "isqrt", "comb", "perm", "factorial"},
    "itertools": {"product", "combinations", "permutations", "chain", "accumulate", "pairwise", "islice", "zip_longest"},
    "collections": {"defaultdict", "deque"},
}
METHODS = set(
    "append clear copy count endswith extend find get index insert isalnum isalpha isdigit islower isspace isupper "
    "items join keys ljust lower lstrip partition pop remove replace reverse rfind rjust rpartition rsplit rstrip "
    "setdefault split splitlines startswith strip update upper values zfill bit_length add discard sort __init__".split()
)
ONCE = {"zip", "enumerate", "reversed", "range", "combinations", "product", "permutations", "chain", "map"}
VIEWS = {"items", "keys", "values"}
TAKING = {"list", "tuple", "dict", "sorted", "sum", "any", "all", "enumerate", "zip", "min", "max", "combinations"}
WORDS = set(
    "type typing typing_extensions enum Enum IntEnum StrEnum Flag IntFlag Generic Protocol ABC ABCMeta namedtuple "
    "NamedTuple TypedDict TYPE_CHECKING abstractmethod dataclass overload contextmanager register mro elements open "
    "input law version_info with_traceback add_note".split()
)
BARRED = (ast.Div, ast.AsyncFunctionDef, ast.AsyncFor, ast.AsyncWith, ast.Await)


def sources():
    for name in sorted(os.listdir(FOLDER)):
        if name != "__pycache__":
            with open(os.path.join(FOLDER, name), "rb") as file:
                yield name, file.read()


def trees():
    return {name[:-3]: ast.parse(source) for name, source in sources()}


def bound_names(tree):
    """Names that a file gives a meaning, its imports left out."""
    for node in ast.walk(tree):
        if isinstance(node, (ast.FunctionDef, ast.ClassDef)):
            yield node.name
        elif isinstance(node, ast.arg):
            yield node.arg
        elif isinstance(node, ast.Name) and isinstance(node.ctx, ast.Store):
            yield node.id


class Language(unittest.TestCase):
    def test_files_and_sizes(self):
        for name, source in sources():
            self.assertRegex(name, r"^[a-z_]+\.py$")
            lines = source.decode("ascii").split("\n")
            self.assertLessEqual(len(lines), 399, name)
            self.assertLessEqual(max(len(line) for line in lines), 120, name)
            self.assertTrue(all(sign == "\n" or " " <= sign <= "~" for sign in source.decode("ascii")), name)
            for node in ast.walk(ast.parse(source)):
                if isinstance(node, ast.FunctionDef):
                    self.assertLessEqual(node.end_lineno - node.lineno + 1, 40, (name, node.name))

    def test_imports(self):
        own = {name: {node.name for node in tree.body if isinstance(node, (ast.FunctionDef, ast.ClassDef))}
               | {target.id for node in tree.body if isinstance(node, ast.Assign) for target in node.targets}
               for name, tree in trees().items()}
        ahead = {}
        for name, tree in trees().items():
            ahead[name] = set()
            for node in ast.walk(tree):
                self.assertNotIsInstance(node, ast.Import, name)
                if isinstance(node, ast.ImportFrom):
                    told = {alias.name for alias in node.names}
                    self.assertEqual(node.level, 0)
                    if node.module in LIBRARY:
                        self.assertLessEqual(told, LIBRARY[node.module], name)
                    else:
                        package, module = node.module.split(".")
                        self.assertEqual(package, PACKAGE)
                        self.assertLessEqual(told, own[module], (name, module))
                        ahead[name].add(module)
        while ahead:
            free = [name for name, modules in ahead.items() if not modules & set(ahead)]
            self.assertTrue(free, f"files import from each other: {sorted(ahead)}")
            ahead = {name: modules for name, modules in ahead.items() if name not in free}

    def test_builtins(self):
        for name, tree in trees().items():
            bound = set(bound_names(tree))
            self.assertEqual(bound & set(dir(builtins)), set(), name)
            used = {node.id for node in ast.walk(tree) if isinstance(node, ast.Name)}
            self.assertLessEqual(used & set(dir(builtins)), BUILTINS, name)

    def test_methods(self):
        own = {node.name for tree in trees().values() for node in ast.walk(tree) if isinstance(node, ast.FunctionDef)}
        for name, tree in trees().items():
            for node in ast.walk(tree):
                if isinstance(node, ast.Call) and isinstance(node.func, ast.Attribute):
                    self.assertIn(node.func.attr, METHODS | own, name)

    def test_signs(self):
        for name, tree in trees().items():
            for node in ast.walk(tree):
                self.assertNotIsInstance(node, BARRED, name)
                if isinstance(node, ast.Constant):
                    self.assertNotIsInstance(node.value, (float, complex), name)

    def test_module_level(self):
        for name, tree in trees().items():
            for place, node in enumerate(tree.body):
                docstring = place == 0 and isinstance(node, ast.Expr) and isinstance(node.value, ast.Constant)
                allowed = (ast.ImportFrom, ast.FunctionDef, ast.ClassDef, ast.Assign)
                self.assertTrue(docstring or isinstance(node, allowed), (name, node.lineno))
                self.assertEqual(getattr(node, "decorator_list", []), [], name)

    def test_no_name_of_an_import_or_a_class_has_another_meaning(self):
        for name, tree in trees().items():
            taken = {alias.name for node in ast.walk(tree) if isinstance(node, ast.ImportFrom) for alias in node.names}
            bound = list(bound_names(tree))
            classes = {node.name for node in ast.walk(tree) if isinstance(node, ast.ClassDef)}
            self.assertEqual(taken & set(bound), set(), name)
            self.assertTrue(all(bound.count(one) == 1 for one in classes), name)

    def test_words(self):
        for name, tree in trees().items():
            used = {getattr(node, field) for node in ast.walk(tree) for field in ("id", "attr", "arg", "name")
                    if isinstance(getattr(node, field, None), str)}
            self.assertEqual(used & WORDS, set(), name)
            for node in ast.walk(tree):
                if isinstance(node, ast.Name) and node.id == "_":
                    self.assertIsInstance(node.ctx, ast.Store, (name, node.lineno))

    def test_exponents(self):
        for name, tree in trees().items():
            for node in ast.walk(tree):
                if isinstance(node, ast.BinOp) and isinstance(node.op, ast.Pow):
                    self.assertIsInstance(node.right, ast.Constant, (name, node.lineno))
                    self.assertIn(node.right.value, range(65))

    def test_what_is_iterated_at_once(self):
        for name, tree in trees().items():
            at_once = set()
            for node in ast.walk(tree):
                if isinstance(node, (ast.For, ast.comprehension)):
                    at_once.add(node.iter)
                elif isinstance(node, ast.Call) and isinstance(node.func, ast.Name) and node.func.id in TAKING:
                    at_once.update(node.args)
            for node in ast.walk(tree):
                if isinstance(node, ast.Call):
                    told = getattr(node.func, "id", None) in ONCE or getattr(node.func, "attr", None) in VIEWS
                    self.assertTrue(not told or node in at_once, (name, node.lineno))

    def test_sets_are_not_iterated(self):
        for name, tree in trees().items():
            for node in ast.walk(tree):
                if isinstance(node, (ast.For, ast.comprehension)):
                    self.assertNotIsInstance(node.iter, (ast.Set, ast.SetComp), (name, node.iter.lineno))
                    self.assertNotEqual(getattr(getattr(node.iter, "func", None), "id", None), "set", name)

    def test_errors_caught_and_raised(self):
        own = {node.name for node in trees()["errors"].body if isinstance(node, ast.ClassDef)}
        for name, tree in trees().items():
            for node in ast.walk(tree):
                if isinstance(node, ast.ExceptHandler):
                    told = node.type.elts if isinstance(node.type, ast.Tuple) else [node.type]
                    self.assertLessEqual({one.id for one in told}, own | {"KeyError", "ZeroDivisionError"}, name)
                    self.assertNotIn(node.name, {one.id for one in ast.walk(tree) if isinstance(one, ast.Name)
                                                 and isinstance(one.ctx, ast.Store)})
                if isinstance(node, ast.Raise):
                    self.assertIn(node.exc.func.id, own, name)

    def test_where_sets_stand(self):
        for name, tree in trees().items():
            right = set()
            for node in ast.walk(tree):
                if isinstance(node, ast.Assign) and isinstance(node.targets[0], ast.Name):
                    right.add(node.value)
                elif isinstance(node, ast.Compare) and isinstance(node.ops[0], (ast.In, ast.NotIn)):
                    right.update(node.comparators)
                elif isinstance(node, ast.Call) and getattr(node.func, "id", None) in ("sorted", "len"):
                    right.update(node.args)
            for node in ast.walk(tree):
                made = isinstance(node, ast.Call) and getattr(node.func, "id", None) == "set"
                if made or isinstance(node, (ast.Set, ast.SetComp)):
                    self.assertIn(node, right, (name, node.lineno))

    def test_strings(self):
        for name, tree in trees().items():
            for node in ast.walk(tree):
                if isinstance(node, ast.Constant) and isinstance(node.value, str):
                    self.assertNotIn("%", node.value, name)
                    self.assertNotIn("__", node.value, name)

    def test_tables_hold_functions_of_their_own_file(self):
        for name, tree in trees().items():
            above = set()
            for node in tree.body:
                if isinstance(node, ast.FunctionDef):
                    above.add(node.name)
                elif isinstance(node, ast.Assign):
                    self.assertEqual(len(node.targets), 1)
                    used = {one.id for one in ast.walk(node.value) if isinstance(one, ast.Name)}
                    self.assertLessEqual(used, above, name)


if __name__ == "__main__":
    unittest.main()
