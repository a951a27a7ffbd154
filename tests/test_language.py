"""The rules of the language that can be counted. The rest of them is for readers."""

import ast
import builtins
import unittest
from pathlib import Path

PACKAGE = Path(__file__).resolve().parent.parent / "stackorder"
FILES = sorted(PACKAGE.glob("*.py"))
SOURCES = {path: path.read_text() for path in FILES}
TREES = {path: ast.parse(text) for path, text in SOURCES.items()}

LIBRARY = {
    "math": {"gcd", "lcm", "isqrt", "comb", "perm", "factorial"},
    "itertools": {"product", "combinations", "permutations", "chain", "accumulate", "pairwise", "islice", "zip_longest"},
    "heapq": {"heappush", "heappop", "heapify", "heapreplace", "heappushpop"},
    "collections": {"defaultdict"},
}
BUILTINS = set(
    "len range enumerate zip min max sum abs sorted reversed int str bool list tuple dict set isinstance ord repr any all "
    "divmod iter next map super property staticmethod classmethod ValueError KeyError NotImplemented".split()
)
METHODS = set(
    "append clear copy count endswith extend find get index insert isalnum isalpha isdigit islower isspace isupper items join "
    "keys ljust lower lstrip partition pop remove replace reverse rfind rjust rpartition rsplit rstrip setdefault split "
    "splitlines startswith strip update upper values zfill bit_length removeprefix removesuffix add discard".split()
)
DUNDERS = {"__init__", "__eq__", "__repr__", "__str__", "__len__", "__enter__", "__exit__"}
BARRED_NAMES = set("register mro elements open input law version_info with_traceback add_note".split())
BARRED_STATEMENTS = (ast.Global, ast.AsyncFunctionDef, ast.Await, ast.GeneratorExp, ast.Div, ast.Import, ast.NamedExpr)


def nodes(kind):
    return [(path, node) for path, tree in TREES.items() for node in ast.walk(tree) if isinstance(node, kind)]


def bound_names(function):
    """The parameters and local variables of a function."""
    spec = function.args
    named = [arg.arg for arg in spec.posonlyargs + spec.args + spec.kwonlyargs]
    named += [arg.arg for arg in (spec.vararg, spec.kwarg) if arg is not None]
    return named + [node.id for node in ast.walk(function) if isinstance(node, ast.Name) and isinstance(node.ctx, ast.Store)]


def imports_of(path):
    return [alias.name for node in TREES[path].body if isinstance(node, ast.ImportFrom) for alias in node.names]


class Language(unittest.TestCase):
    def test_files(self):
        self.assertEqual(sorted(entry.name for entry in PACKAGE.iterdir() if entry.name != "__pycache__"), [p.name for p in FILES])
        self.assertIn("__init__.py", [path.name for path in FILES])
        for path, text in SOURCES.items():
            self.assertEqual(path.name, path.name.lower())
            self.assertTrue(all(" " <= letter <= "~" or letter == "\n" for letter in text), path)
            self.assertLessEqual(len(text.splitlines()), 399, path)
            self.assertLessEqual(max(len(line) for line in text.splitlines()), 120, path)

    def test_functions_are_small(self):
        for path, node in nodes(ast.FunctionDef):
            self.assertLessEqual(node.end_lineno - node.lineno + 1, 40, (path, node.name))

    def test_imports(self):
        for path, node in nodes(ast.ImportFrom):
            self.assertIn(node, TREES[path].body)
            names = {alias.name for alias in node.names}
            self.assertTrue(all(alias.asname is None for alias in node.names))
            if node.module in LIBRARY:
                self.assertLessEqual(names, LIBRARY[node.module])
            else:
                package, _, file = node.module.partition(".")
                self.assertEqual((package, node.level), ("stackorder", 0))
                tree = TREES[PACKAGE / f"{file}.py"]
                own = {row.name for row in tree.body if isinstance(row, (ast.FunctionDef, ast.ClassDef))}
                own |= {target.id for row in tree.body if isinstance(row, ast.Assign) for target in row.targets}
                self.assertLessEqual(names, own, path)

    def test_every_import_is_used(self):
        for path, tree in TREES.items():
            used = {node.id for node in ast.walk(tree) if isinstance(node, ast.Name)}
            self.assertLessEqual(set(imports_of(path)), used, path)

    def test_no_two_files_import_from_each_other(self):
        needs = {
            path.stem: {row.module.partition(".")[2] for row in tree.body if isinstance(row, ast.ImportFrom)
                        and row.module.startswith("stackorder.")}
            for path, tree in TREES.items()
        }
        while needs:
            free = [name for name, needed in needs.items() if not needed & set(needs)]
            self.assertTrue(free, sorted(needs))
            needs = {name: needed for name, needed in needs.items() if name not in free}

    def test_barred_syntax(self):
        for path, node in nodes(BARRED_STATEMENTS):
            self.fail((path, ast.dump(node)))
        for path, node in nodes(ast.Constant):
            self.assertNotIsInstance(node.value, (float, complex), path)
            if isinstance(node.value, str):
                self.assertNotIn(chr(37), node.value, path)

    def test_module_level(self):
        for path, tree in TREES.items():
            for k, row in enumerate(tree.body):
                if isinstance(row, ast.Expr):
                    self.assertEqual((k, type(row.value)), (0, ast.Constant), path)
                else:
                    self.assertIsInstance(row, (ast.ImportFrom, ast.FunctionDef, ast.ClassDef, ast.Assign), path)
            bound = imports_of(path)
            bound += [row.name for row in tree.body if isinstance(row, (ast.FunctionDef, ast.ClassDef))]
            bound += [target.id for row in tree.body if isinstance(row, ast.Assign) for target in row.targets]
            self.assertEqual(len(bound), len(set(bound)), path)

    def test_names(self):
        for path, node in nodes((ast.FunctionDef, ast.ClassDef)):
            self.assertTrue(not node.name.startswith("__") or node.name in DUNDERS, node.name)
            self.assertFalse(node.name in vars(builtins) or node.name in BARRED_NAMES, node.name)
        for path, node in nodes(ast.FunctionDef):
            taken = {row.name for row in TREES[path].body if isinstance(row, ast.ClassDef)} | set(imports_of(path))
            for name in bound_names(node):
                self.assertFalse(name in vars(builtins) or name in BARRED_NAMES or name in taken, (path, name))
        for path, node in nodes(ast.Attribute):
            self.assertNotIn(node.attr, BARRED_NAMES | {"format", "args"})

    def test_builtins_and_decorators(self):
        for path, node in nodes(ast.Name):
            if isinstance(node.ctx, ast.Load) and node.id in vars(builtins):
                self.assertIn(node.id, BUILTINS, path)
        for path, node in nodes(ast.FunctionDef):
            for decorator in node.decorator_list:
                self.assertIn(ast.unparse(decorator).rpartition(".")[2], ("property", "setter", "staticmethod", "classmethod"))

    def test_methods(self):
        own = {node.name for _, node in nodes(ast.FunctionDef)}
        for path, node in nodes(ast.Call):
            if isinstance(node.func, ast.Attribute):
                self.assertIn(node.func.attr, METHODS | own, path)

    def test_is_only_with_none_and_bools(self):
        for path, node in nodes(ast.Compare):
            for sign, side in zip(node.ops, node.comparators):
                if isinstance(sign, (ast.Is, ast.IsNot)):
                    self.assertIn(ast.unparse(side), ("None", "True", "False"), path)

    def test_what_double_underscore_methods_return(self):
        for path, node in nodes(ast.FunctionDef):
            returned = [ast.unparse(row.value) for row in ast.walk(node) if isinstance(row, ast.Return) and row.value is not None]
            if node.name == "__init__":
                self.assertEqual(returned, [], path)
            if node.name == "__len__":
                self.assertTrue(all(text.startswith("len(") for text in returned), path)
            if node.name in ("__str__", "__repr__"):
                self.assertTrue(all(text.startswith(("str(", "repr(", "'", "f'")) for text in returned), path)
            if node.name in ("__len__", "__str__", "__repr__"):
                self.assertIsInstance(node.body[-1], ast.Return, path)

    def test_sets_stand_where_they_may(self):
        # In sorted(..) and len(..), and behind in.
        for path, tree in TREES.items():
            allowed = set()
            for node in ast.walk(tree):
                if isinstance(node, ast.Call) and isinstance(node.func, ast.Name) and node.func.id in ("sorted", "len"):
                    allowed |= {id(part) for part in node.args}
                if isinstance(node, ast.Compare):
                    allowed |= {id(part) for part in node.comparators}
            for node in ast.walk(tree):
                if isinstance(node, (ast.Set, ast.SetComp)) or (isinstance(node, ast.Call) and ast.unparse(node.func) == "set"):
                    self.assertIn(id(node), allowed, path)

    def test_module_values_name_no_other_values(self):
        for path, tree in TREES.items():
            for row in tree.body:
                if isinstance(row, ast.Assign):
                    self.assertEqual([node for node in ast.walk(row.value) if isinstance(node, (ast.Name, ast.Call))], [], path)
