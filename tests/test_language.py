"""The rules of LANGUAGE.md that a program can check, over the files of the package."""

import ast
import builtins
import pathlib
import unittest

FOLDER = pathlib.Path(__file__).resolve().parent.parent / "bytegrove"

BUILTINS = set("""len range enumerate zip min max sum abs sorted reversed int str bool bytes list tuple dict set frozenset
isinstance ord repr any all divmod pow getattr hasattr setattr iter next map ValueError KeyError IndexError LookupError
TypeError ZeroDivisionError NotImplemented super property staticmethod classmethod""".split())

METHODS = set("""append clear copy count endswith extend find get index insert isalnum isalpha isdigit islower isspace
isupper items join keys ljust lower lstrip partition pop remove replace reverse rfind rjust rpartition rsplit rstrip
setdefault split splitlines startswith strip update upper values zfill bit_length removeprefix removesuffix isascii add
discard""".split())

LIBRARY = {"heapq": "heappush heappop heapify heapreplace heappushpop", "math": "gcd lcm isqrt comb perm factorial",
           "itertools": "product combinations permutations chain accumulate pairwise islice zip_longest",
           "collections": "defaultdict", "__future__": "annotations"}

STATEMENTS = (ast.Assign, ast.AugAssign, ast.AnnAssign, ast.If, ast.While, ast.For, ast.Return, ast.Break, ast.Continue,
              ast.Pass, ast.Raise, ast.Assert, ast.Delete, ast.Nonlocal, ast.Match, ast.With, ast.Try, ast.Expr,
              ast.FunctionDef, ast.ClassDef, ast.ImportFrom)

INTERFACE = {
    "errors": "GroveError BadKinds BadFunctions BadTree BadLayout BadRow NotThere Stuck Backward Unknown WrongLayout"
              " NoLayout",
    "kinds": "Kinds",
    "layouts": "Layout",
    "rows": "pack unpack",
}


def is_docstring(statement):
    return (isinstance(statement, ast.Expr) and isinstance(statement.value, ast.Constant)
            and isinstance(statement.value.value, str))


class LanguageTest(unittest.TestCase):
    def setUp(self):
        self.texts = {path.name: path.read_text("utf-8") for path in sorted(FOLDER.glob("*.py"))}
        self.trees = {name: ast.parse(text) for name, text in self.texts.items()}

    def nodes(self, *wanted):
        for name, tree in self.trees.items():
            for node in ast.walk(tree):
                if isinstance(node, wanted):
                    yield f"{name}:{getattr(node, 'lineno', 0)}", node

    def test_folder_holds_only_modules(self):
        self.assertIn("__init__.py", self.texts)
        for path in FOLDER.iterdir():
            if path.name != "__pycache__":
                self.assertTrue(path.is_file() and path.suffix == ".py" and path.name == path.name.lower(), path)

    def test_sizes_and_characters(self):
        for name, text in self.texts.items():
            lines = text.split("\n")
            self.assertLessEqual(len(lines) - 1, 399, name)
            for line in lines:
                self.assertLessEqual(len(line), 120, name)
                self.assertTrue(all(" " <= letter <= "~" for letter in line), (name, line))
        for where, node in self.nodes(ast.FunctionDef):
            self.assertLessEqual(node.end_lineno - node.lineno + 1, 40, where)

    def test_imports(self):
        for where, node in self.nodes(ast.Import):
            self.fail(where)
        for where, node in self.nodes(ast.ImportFrom):
            self.assertEqual(node.level, 0, where)
            for alias in node.names:
                if node.module in LIBRARY:
                    self.assertIn(alias.name, LIBRARY[node.module].split(), where)
                else:
                    package, file = node.module.split(".")
                    self.assertEqual(package, "bytegrove", where)
                    self.assertIn(alias.name, self.bound(file + ".py"), where)

    def bound(self, name):
        """Return the names that a file binds itself at its module level."""
        found = []
        for statement in self.trees[name].body:
            if isinstance(statement, (ast.FunctionDef, ast.ClassDef)):
                found.append(statement.name)
            elif isinstance(statement, ast.Assign):
                found.extend(target.id for target in statement.targets)
        return found

    def test_module_level(self):
        for name, tree in self.trees.items():
            names = self.bound(name)
            self.assertEqual(len(names), len(set(names)), name)
            for statement in tree.body:
                self.assertTrue(is_docstring(statement) or isinstance(
                    statement, (ast.ImportFrom, ast.FunctionDef, ast.ClassDef, ast.Assign)), (name, statement.lineno))

    def test_statements_and_expressions(self):
        for where, node in self.nodes(ast.stmt):
            self.assertIsInstance(node, STATEMENTS, where)
        for where, node in self.nodes(ast.Div, ast.Await, ast.AsyncFor, ast.GeneratorExp):
            self.fail(where)
        for where, node in self.nodes(ast.Constant):
            self.assertNotIsInstance(node.value, (float, complex), where)
            if isinstance(node.value, str):
                self.assertNotIn("%", node.value, where)
        for where, node in self.nodes(ast.Compare):
            for sign, other in zip(node.ops, node.comparators):
                if isinstance(sign, (ast.Is, ast.IsNot)):
                    self.assertTrue(isinstance(other, ast.Constant), where)

    def test_builtins_and_names(self):
        imported = {alias.name for _, node in self.nodes(ast.ImportFrom) for alias in node.names}
        for where, node in self.nodes(ast.Name):
            if hasattr(builtins, node.id) and node.id not in imported:
                self.assertIn(node.id, BUILTINS, where)
                self.assertIsInstance(node.ctx, ast.Load, where)
        for where, node in self.nodes(ast.arg):
            self.assertFalse(hasattr(builtins, node.arg), where)
        for where, node in self.nodes(ast.FunctionDef):
            inside = node.name.startswith("__")
            self.assertTrue(inside or not hasattr(builtins, node.name), where)
        for where, node in self.nodes(ast.Call):
            self.assertFalse(isinstance(node.func, ast.Name) and node.func.id in ("bytes", "chr", "print"), where)

    def test_methods(self):
        own = {node.name for _, node in self.nodes(ast.FunctionDef)}
        for where, node in self.nodes(ast.Call):
            if isinstance(node.func, ast.Attribute):
                self.assertIn(node.func.attr, METHODS | own, where)
                self.assertFalse(node.func.attr in METHODS and node.keywords, where)

    def test_operators_assign_nothing_by_signs(self):
        # L5: no += in an operator where a class has an in-place method.
        for where, node in self.nodes(ast.FunctionDef):
            if node.name.startswith("__") and node.name not in ("__init__", "__iadd__", "__isub__", "__setitem__"):
                for inner in ast.walk(node):
                    self.assertNotIsInstance(inner, ast.AugAssign, where)

    def test_interface_is_defined_in_its_files(self):
        for name, wanted in INTERFACE.items():
            defined = [statement.name for statement in self.trees[name + ".py"].body
                       if isinstance(statement, (ast.FunctionDef, ast.ClassDef))]
            for word in wanted.split():
                self.assertIn(word, defined)


if __name__ == "__main__":
    unittest.main()
