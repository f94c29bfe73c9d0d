"""The rules of LANGUAGE.md that a program can check, over the files of the package."""

import ast
import builtins
import pathlib
import unittest

FOLDER = pathlib.Path(__file__).resolve().parent.parent / "bytegrove"

BUILTINS = set("""len range enumerate zip min max sum abs sorted reversed int str bool bytes list tuple dict set frozenset
isinstance ord repr any all divmod pow getattr hasattr setattr iter next map ValueError KeyError IndexError LookupError
TypeError ZeroDivisionError NotImplemented super property staticmethod classmethod""".split())

METHODS = set("""append clear copy count endswith extend find get index insert isalnum isalpha isdigit islower isspace
isupper items join keys ljust lower lstrip partition pop remove replace reverse rfind rjust rpartition rsplit rstrip
setdefault split splitlines startswith strip update upper values zfill bit_length removeprefix removesuffix isascii add
discard""".split())

LIBRARY = {"heapq": "heappush heappop heapify heapreplace heappushpop", "math": "gcd lcm isqrt comb perm factorial",
           "itertools": "product combinations permutations chain accumulate pairwise islice zip_longest",
           "collections": "defaultdict", "__future__": "annotations"}

STATEMENTS = (ast.Assign, ast.AugAssign, ast.AnnAssign, ast.If, ast.While, ast.For, ast.Return, ast.Break, ast.Continue,
              ast.Pass, ast.Raise, ast.Assert, ast.Delete, ast.Nonlocal, ast.Match, ast.With, ast.Try, ast.Expr,
              ast.FunctionDef, ast.ClassDef, ast.ImportFrom)

INTERFACE = {
    "errors": "GroveError BadKinds BadFunctions BadTree BadLayout BadRow NotThere Stuck Backward Unknown WrongLayout"
              " NoLayout",
    "kinds": "Kinds",
    "layouts": "Layout",
    "rows": "pack unpack",
    "bodies": "Functions",
    "runs": "run_tree run_row events",
    "judge": "words_of least_stuck least_unended Verdict Right Wrong judge what_if needless RowFunction",
    "cheapest": "cheapest offers extra_price",
}

CLASS_METHODS = {
    ("bodies", "Functions"): "takes body paths reached",
    ("judge", "Verdict"): "lines",
    ("judge", "Right"): "lines",
    ("judge", "Wrong"): "lines",
    ("judge", "RowFunction"): "__call__",
}

# L17, and of L26 the names that no attribute has.
BARRED = set("""register mro elements open input law version_info with_traceback add_note attrgetter breakpoint builtins
compile copyright credits delattr dir eval exec exit gc globals help id importlib license locals methodcaller os quit
setattr type vars""".split())
BARRED_ATTRIBUTES = set("""register mro elements open input law with_traceback add_note items keys values pop update append
clear extend insert remove reverse setdefault sort args encode decode hex fromhex format format_map""".split())


def is_docstring(statement):
    return (isinstance(statement, ast.Expr) and isinstance(statement.value, ast.Constant)
            and isinstance(statement.value.value, str))


class LanguageTest(unittest.TestCase):
    def setUp(self):
        self.texts = {path.name: path.read_text("utf-8") for path in sorted(FOLDER.glob("*.py"))}
        self.trees = {name: ast.parse(text) for name, text in self.texts.items()}

    def nodes(self, *wanted):
        for name, tree in self.trees.items():
            for node in ast.walk(tree):
                if isinstance(node, wanted):
                    yield f"{name}:{getattr(node, 'lineno', 0)}", node

    def test_folder_holds_only_modules(self):
        self.assertIn("__init__.py", self.texts)
        for path in FOLDER.iterdir():
            if path.name != "__pycache__":
                self.assertTrue(path.is_file() and path.suffix == ".py" and path.name == path.name.lower(), path)

    def test_sizes_and_characters(self):
        for name, text in self.texts.items():
            lines = text.split("\n")
            self.assertLessEqual(len(lines) - 1, 399, name)
            for line in lines:
                self.assertLessEqual(len(line), 120, name)
                self.assertTrue(all(" " <= letter <= "~" for letter in line), (name, line))
        for where, node in self.nodes(ast.FunctionDef):
            self.assertLessEqual(node.end_lineno - node.lineno + 1, 40, where)

    def test_imports(self):
        for where, node in self.nodes(ast.Import):
            self.fail(where)
        for where, node in self.nodes(ast.ImportFrom):
            self.assertEqual(node.level, 0, where)
            for alias in node.names:
                if node.module in LIBRARY:
                    self.assertIn(alias.name, LIBRARY[node.module].split(), where)
                else:
                    package, file = node.module.split(".")
                    self.assertEqual(package, "bytegrove", where)
                    self.assertIn(alias.name, self.bound(file + ".py"), where)

    def bound(self, name):
        """Return the names that a file binds itself at its module level."""
        found = []
        for statement in self.trees[name].body:
            if isinstance(statement, (ast.FunctionDef, ast.ClassDef)):
                found.append(statement.name)
            elif isinstance(statement, ast.Assign):
                found.extend(target.id for target in statement.targets)
        return found

    def test_module_level(self):
        for name, tree in self.trees.items():
            names = self.bound(name)
            self.assertEqual(len(names), len(set(names)), name)
            for statement in tree.body:
                self.assertTrue(is_docstring(statement) or isinstance(
                    statement, (ast.ImportFrom, ast.FunctionDef, ast.ClassDef, ast.Assign)), (name, statement.lineno))

    def test_statements_and_expressions(self):
        for where, node in self.nodes(ast.stmt):
            self.assertIsInstance(node, STATEMENTS, where)
        for where, node in self.nodes(ast.Div, ast.Await, ast.AsyncFor, ast.GeneratorExp):
            self.fail(where)
        for where, node in self.nodes(ast.Constant):
            self.assertNotIsInstance(node.value, (float, complex), where)
            if isinstance(node.value, str):
                self.assertNotIn("%", node.value, where)
        for where, node in self.nodes(ast.Compare):
            for sign, other in zip(node.ops, node.comparators):
                if isinstance(sign, (ast.Is, ast.IsNot)):
                    self.assertTrue(isinstance(other, ast.Constant), where)

    def test_builtins_and_names(self):
        imported = {alias.name for _, node in self.nodes(ast.ImportFrom) for alias in node.names}
        for where, node in self.nodes(ast.Name):
            if hasattr(builtins, node.id) and node.id not in imported:
                self.assertIn(node.id, BUILTINS, where)
                self.assertIsInstance(node.ctx, ast.Load, where)
        for where, node in self.nodes(ast.arg):
            self.assertFalse(hasattr(builtins, node.arg), where)
        for where, node in self.nodes(ast.FunctionDef):
            inside = node.name.startswith("__")
            self.assertTrue(inside or not hasattr(builtins, node.name), where)
        for where, node in self.nodes(ast.Call):
            self.assertFalse(isinstance(node.func, ast.Name) and node.func.id in ("bytes", "chr", "print"), where)

    def test_methods(self):
        own = {node.name for _, node in self.nodes(ast.FunctionDef)}
        for where, node in self.nodes(ast.Call):
            if isinstance(node.func, ast.Attribute):
                self.assertIn(node.func.attr, METHODS | own, where)
                self.assertFalse(node.func.attr in METHODS and node.keywords, where)

    def test_operators_assign_nothing_by_signs(self):
        # L5: no += in an operator where a class has an in-place method.
        for where, node in self.nodes(ast.FunctionDef):
            free = ("__init__", "__call__", "__iadd__", "__isub__", "__setitem__")
            if node.name.startswith("__") and node.name not in free:
                for inner in ast.walk(node):
                    self.assertNotIsInstance(inner, ast.AugAssign, where)

    def test_interface_is_defined_in_its_files(self):
        for name, wanted in INTERFACE.items():
            defined = [statement.name for statement in self.trees[name + ".py"].body
                       if isinstance(statement, (ast.FunctionDef, ast.ClassDef))]
            for word in wanted.split():
                self.assertIn(word, defined)

    def test_methods_are_defined_in_their_classes(self):
        for (name, cls), wanted in CLASS_METHODS.items():
            body = [node.body for node in self.trees[name + ".py"].body
                    if isinstance(node, ast.ClassDef) and node.name == cls][0]
            defined = [node.name for node in body if isinstance(node, ast.FunctionDef)]
            for word in wanted.split():
                self.assertIn(word, defined)

    def assigned_attributes(self):
        """Yield the names of attributes that are assigned, with their places."""
        for where, node in self.nodes(ast.Attribute):
            if isinstance(node.ctx, ast.Store):
                yield where, node.attr

    def test_barred_names(self):
        for where, node in self.nodes(ast.Name):
            self.assertNotIn(node.id, BARRED, where)
        for where, node in self.nodes(ast.arg):
            self.assertNotIn(node.arg, BARRED, where)
        for where, node in self.nodes(ast.FunctionDef):
            self.assertNotIn(node.name, BARRED, where)
        for where, name in self.assigned_attributes():
            self.assertNotIn(name, BARRED_ATTRIBUTES, where)

    def test_no_name_is_a_method_and_an_attribute(self):
        # Narrower than L18, which lets other classes do so.
        methods = {node.name for _, cls in self.nodes(ast.ClassDef) for node in cls.body
                   if isinstance(node, ast.FunctionDef)}
        for where, name in self.assigned_attributes():
            self.assertNotIn(name, methods, where)

    def test_generators(self):
        # L23: no other function has a generator's name; no yield in a try; the package iterates none.
        functions = [node for _, node in self.nodes(ast.FunctionDef)]
        generators = [node.name for node in functions
                      if any(isinstance(inner, (ast.Yield, ast.YieldFrom)) for inner in ast.walk(node))]
        self.assertEqual(generators, ["events"])
        self.assertEqual([node.name for node in functions].count("events"), 1)
        for where, node in self.nodes(ast.Name):
            self.assertNotEqual(node.id, "events", where)
        for where, node in self.nodes(ast.Try):
            for inner in ast.walk(node):
                self.assertNotIsInstance(inner, ast.Yield, where)

    def test_handlers(self):
        # L19: what is caught is an own error, by its name.
        own = INTERFACE["errors"].split()
        for where, node in self.nodes(ast.ExceptHandler):
            self.assertIsInstance(node.type, ast.Name, where)
            self.assertIn(node.type.id, own, where)
        for where, node in self.nodes(ast.Raise):
            self.assertTrue(node.exc is None or isinstance(node.exc, ast.Call), where)


if __name__ == "__main__":
    unittest.main()
