"""The package as a whole: its interface, and the form of its files."""

import ast
import inspect
import pathlib
import unittest
import warnings

from countsheld import counts, errors, rules

FOLDER = pathlib.Path(__file__).resolve().parent.parent / "countsheld"
DOUBLE = "__init__ __eq__ __repr__ __str__ __len__ __iter__ __le__ __lt__ __ge__ __gt__ __add__ " \
    "__sub__ __and__ __or__ __xor__ __neg__ __abs__ __mul__ __rmul__ __floordiv__ __mod__ __iadd__ " \
    "__isub__ __iand__ __ior__ __imul__ __getitem__ __setitem__ __contains__ __bool__".split()
BARRED_CALLS = ("open", "input", "eval", "exec", "print", "chr", "hash", "id", "map", "filter", "round")
LISTED = {
    counts: {
        "Counts": "__init__ of tally __add__ __sub__ __neg__ __abs__ __and__ __or__ __xor__ __mul__ "
                  "__rmul__ __le__ __lt__ __ge__ __gt__ __floordiv__ __mod__ __eq__ __iadd__ __isub__ "
                  "__iand__ __ior__ __imul__ __getitem__ __setitem__ __contains__ __len__ __bool__ "
                  "total pairs words only copy columns __repr__",
    },
    rules: {
        "Rule": "total_of __eq__",
        "AtLeast": "__init__ holds lacks __str__",
        "AtMost": "__init__ holds lacks __str__",
        "Between": "__init__ holds lacks __str__",
        "Exactly": "__init__ holds lacks __str__",
        "Rules": "__init__ of cap __contains__ broken numbers each __len__ __eq__",
    },
}
PARAMETERS = {
    counts.Counts.of: ["pairs"], counts.Counts.tally: ["words"], rules.read_rule: ["text"],
    rules.Rule.total_of: ["self", "counts"], rules.Exactly.holds: ["self", "counts"],
    rules.Exactly.lacks: ["self", "counts"], rules.Rules.of: ["rules", "loose"],
    rules.Rules.cap: ["self", "kind"], rules.Rules.broken: ["self", "counts"],
    rules.Rules.numbers: ["self", "counts"], rules.AtLeast.__init__: ["self", "least", "kinds"],
    rules.AtMost.__init__: ["self", "most", "kinds"], rules.Exactly.__init__: ["self", "number", "kinds"],
    rules.Between.__init__: ["self", "least", "most", "kinds"], rules.Rules.__init__: ["self", "rules", "loose"],
}


def sources():
    return {path: path.read_text(encoding="utf-8") for path in sorted(FOLDER.glob("*.py"))}


def nodes(*kinds):
    for path, text in sources().items():
        for node in ast.walk(ast.parse(text)):
            if isinstance(node, kinds):
                yield path, node


class TestInterface(unittest.TestCase):

    def test_methods_stand_in_the_class_itself(self):
        for module, classes in LISTED.items():
            for name, methods in classes.items():
                made = getattr(module, name)
                self.assertEqual(made.__module__, module.__name__)
                for method in methods.split():
                    self.assertIn(method, vars(made), name)

    def test_functions_stand_in_their_file(self):
        self.assertEqual(rules.read_rule.__module__, "countsheld.rules")
        self.assertEqual(errors.BadRule.__module__, "countsheld.errors")

    def test_parameters(self):
        for function, names in PARAMETERS.items():
            self.assertEqual(list(inspect.signature(function).parameters), names)

    def test_kinds_of_methods(self):
        self.assertIsInstance(vars(counts.Counts)["total"], property)
        for made in (counts.Counts, rules.Rules):
            self.assertIsInstance(vars(made)["of"], classmethod)
        self.assertTrue(inspect.isgeneratorfunction(rules.Rules.each))


class TestFiles(unittest.TestCase):

    def test_the_folder_contains_python_files_alone(self):
        names = [path.name for path in FOLDER.iterdir() if path.name != "__pycache__"]
        self.assertEqual([name for name in names if not name.endswith(".py")], [])
        self.assertIn("__init__.py", names)

    def test_signs_and_sizes(self):
        for path, text in sources().items():
            lines = text.split("\n")
            self.assertLess(len(lines), 400, path)
            self.assertEqual([line for line in lines if len(line) > 120], [], path)
            self.assertEqual([sign for sign in text if not (" " <= sign <= "~" or sign == "\n")], [], path)

    def test_functions_are_small(self):
        for path, node in nodes(ast.FunctionDef):
            self.assertLessEqual(node.end_lineno - node.lineno + 1, 40, (path, node.name))

    def test_no_warnings(self):
        for path, text in sources().items():
            with warnings.catch_warnings():
                warnings.simplefilter("error")
                compile(text, str(path), "exec")

    def test_imports_name_the_file_that_defines(self):
        for path, _ in nodes(ast.Import):
            self.fail(path)
        for path, node in nodes(ast.ImportFrom):
            self.assertTrue(node.module.startswith("countsheld."), path)
            text = (FOLDER / (node.module.split(".")[1] + ".py")).read_text(encoding="utf-8")
            defined = [one.name for one in ast.parse(text).body if hasattr(one, "name")]
            for alias in node.names:
                self.assertIn(alias.name, defined, path)

    def test_double_underscore_methods(self):
        for path, node in nodes(ast.FunctionDef):
            if node.name.startswith("__"):
                self.assertIn(node.name, DOUBLE, path)

    def test_decorators(self):
        for path, node in nodes(ast.FunctionDef):
            for one in node.decorator_list:
                self.assertIn(ast.unparse(one), ("property", "classmethod"), (path, node.name))

    def test_calls(self):
        for path, node in nodes(ast.Call):
            self.assertNotIn(ast.unparse(node.func), BARRED_CALLS, path)

    def test_order_takes_plain_numbers_and_strings(self):
        # Counts have an order that is not total, so nothing is sorted by its own order.
        for path, node in nodes(ast.Call):
            name = ast.unparse(node.func)
            if name == "sorted":
                self.assertEqual([ast.unparse(one) for one in node.keywords], ["key=str"], path)
            if name in ("min", "max"):
                shown = [ast.unparse(one).lstrip("[") for one in node.args]
                self.assertTrue(all(one.startswith("int(") for one in shown), (path, shown))

    def test_no_change_by_signs(self):
        # Beside in-place operators a += could change an object that others hold.
        self.assertEqual([path for path, _ in nodes(ast.AugAssign)], [])

    def test_sets_floats_and_percent(self):
        self.assertEqual([path for path, _ in nodes(ast.Set, ast.SetComp, ast.Div, ast.Global, ast.Lambda)], [])
        for path, node in nodes(ast.Constant):
            self.assertNotIsInstance(node.value, (float, complex), path)
            if isinstance(node.value, str):
                self.assertNotIn("\x25", node.value, path)
