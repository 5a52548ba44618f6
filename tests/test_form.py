"""The package as a whole: its interface, and the form of its files."""

import ast
import inspect
import pathlib
import unittest
import warnings

from countsheld import (
    books, comparing, counts, desks, doors, errors, histories, judging, looker, mending, rules, shutting, standings, unfolding,
)

FOLDER = pathlib.Path(__file__).resolve().parent.parent / "countsheld"
DOUBLE = "__init__ __eq__ __repr__ __str__ __len__ __iter__ __le__ __lt__ __ge__ __gt__ __add__ " \
    "__sub__ __and__ __or__ __xor__ __neg__ __abs__ __mul__ __rmul__ __floordiv__ __mod__ __iadd__ " \
    "__isub__ __iand__ __ior__ __imul__ __getitem__ __setitem__ __contains__ __bool__ __call__".split()
BARRED_CALLS = ("open", "input", "eval", "exec", "print", "chr", "hash", "id", "map", "filter", "round")
LISTED = {
    counts: {
        "Counts": "__init__ of tally __add__ __sub__ __neg__ __abs__ __and__ __or__ __xor__ __mul__ "
                  "__rmul__ __le__ __lt__ __ge__ __gt__ __floordiv__ __mod__ __eq__ __iadd__ __isub__ "
                  "__iand__ __ior__ __imul__ __getitem__ __setitem__ __contains__ __len__ __bool__ "
                  "total pairs words only copy columns __repr__",
    },
    rules: {
        "Rule": "total_of __eq__",
        "AtLeast": "__init__ holds lacks __str__",
        "AtMost": "__init__ holds lacks __str__",
        "Between": "__init__ holds lacks __str__",
        "Exactly": "__init__ holds lacks __str__",
        "Rules": "__init__ of cap __contains__ broken numbers each __len__ __eq__",
    },
    doors: {"Door": "__init__ of mentioned __len__ __eq__ __str__ __call__"},
    desks: {"Desk": "__init__ begins __getitem__ __contains__ __len__ __iter__ __eq__ __str__ varied read"},
    books: {
        "Book": "__init__ desk deploy add_owner __getitem__ __contains__ __len__ owners __iter__ come leave begin "
                "under_way call broken shown",
        "Call": "is_open next_line go_on",
        "Owner": "__getitem__ __setitem__ drop __contains__ __len__ numbers_of counts __iter__",
    },
    histories: {"Run": "__len__ counts_after"},
    judging: {"Verdict": "__bool__ __len__ has"},
    comparing: {"Comparison": "__bool__ __len__"},
    mending: {name: "__init__ __call__" for name in ("Change", "Hold", "Look", "Demand", "Help", "After", "Keep")},
}
FUNCTIONS = {
    rules: ["read_rule"], books: ["by_hand"], histories: ["play"],
    standings: ["standing_of", "at_rest", "is_standing", "alone", "meeting"],
    judging: ["judge", "possible", "way_to", "farthest"], looker: ["is_certificate", "is_way"],
    unfolding: ["size_of", "length_of", "chain_of", "unfold"], shutting: ["openings", "shut", "future", "is_future"],
    comparing: ["outcomes", "compare", "is_comparison"],
    mending: ["applied", "mends", "mends_of", "enough", "refusals"],
}
PARAMETERS = {
    counts.Counts.of: ["pairs"], counts.Counts.tally: ["words"], rules.read_rule: ["text"],
    rules.Rule.total_of: ["self", "counts"], rules.Exactly.holds: ["self", "counts"],
    rules.Exactly.lacks: ["self", "counts"], rules.Rules.of: ["rules", "loose"],
    rules.Rules.cap: ["self", "kind"], rules.Rules.broken: ["self", "counts"],
    rules.Rules.numbers: ["self", "counts"], rules.AtLeast.__init__: ["self", "least", "kinds"],
    rules.AtMost.__init__: ["self", "most", "kinds"], rules.Exactly.__init__: ["self", "number", "kinds"],
    rules.Between.__init__: ["self", "least", "most", "kinds"], rules.Rules.__init__: ["self", "rules", "loose"],
    doors.Door.__init__: ["self", "name", "lines"], doors.Door.of: ["name", "lines"],
    doors.Door.__call__: ["self", "book", "owner", "row", "other", "picks"],
    desks.Desk.__init__: ["self", "rules", "doors", "begins", "limit", "store"],
    desks.Desk.varied: ["self", "doors", "limit", "store"], desks.Desk.read: ["text"],
    books.Book.__init__: ["self", "desk"], books.Book.deploy: ["self", "desk"],
    books.Book.add_owner: ["self", "begin"], books.Book.come: ["self", "owner", "kind"],
    books.Book.leave: ["self", "owner", "row"], books.Book.under_way: ["self", "owner"],
    books.Book.begin: ["self", "door", "owner", "row", "other", "picks"], books.Book.call: ["self", "number"],
    books.Call.go_on: ["self", "other", "picks"], books.Owner.drop: ["self", "row"],
    books.Owner.numbers_of: ["self", "kind"], books.by_hand: ["book", "owner", "edits"],
    histories.play: ["desk", "history"], histories.Run.counts_after: ["self", "at"],
    standings.standing_of: ["book", "owner"], standings.at_rest: ["desk", "counts"],
    standings.is_standing: ["desk", "thing"], standings.alone: ["desk", "standing", "only_going"],
    standings.meeting: ["desk", "home", "other", "only_going"], judging.judge: ["desk"], judging.possible: ["desk"],
    judging.Verdict.has: ["self", "standing"], judging.way_to: ["desk", "standing"], judging.farthest: ["desk"],
    looker.is_certificate: ["desk", "thing"], looker.is_way: ["desk", "thing"], unfolding.size_of: ["lines"],
    unfolding.length_of: ["lines"], unfolding.chain_of: ["lines"], unfolding.unfold: ["desk", "lines"],
    shutting.openings: ["desk", "counts"], shutting.shut: ["desk"], shutting.future: ["desk", "door", "counts"],
    shutting.is_future: ["desk", "door", "counts", "thing"],
    comparing.outcomes: ["desk", "door", "kind", "home", "other"], comparing.compare: ["one", "other"],
    comparing.is_comparison: ["one", "other", "thing"], mending.Hold.__init__: ["self", "door"],
    mending.Look.__init__: ["self", "door", "tests"], mending.Demand.__init__: ["self", "door", "tests"],
    mending.Help.__init__: ["self", "door", "part"], mending.After.__init__: ["self", "door", "part"],
    mending.Keep.__init__: ["self", "rule"], mending.Change.__call__: ["self", "desk"],
    mending.Hold.__call__: ["self", "desk"], mending.Look.__call__: ["self", "desk"],
    mending.Demand.__call__: ["self", "desk"], mending.Help.__call__: ["self", "desk"],
    mending.After.__call__: ["self", "desk"], mending.Keep.__call__: ["self", "desk"],
    mending.applied: ["desk", "changes"], mending.mends: ["desk", "pool"], mending.mends_of: ["desk", "pool"],
    mending.enough: ["desk"], mending.refusals: ["desk"],
}
BY_NAME_ONLY = {
    rules.Rules.__init__: {"loose": ()}, desks.Desk.__init__: {"limit": 1, "store": ()},
    desks.Desk.varied: {"doors": None, "limit": None, "store": None},
    books.Book.begin: {"row": None, "other": None, "picks": ()}, books.Call.go_on: {"other": None, "picks": ()},
    standings.alone: {"only_going": False}, standings.meeting: {"only_going": False},
}


def sources():
    return {path: path.read_text(encoding="utf-8") for path in sorted(FOLDER.glob("*.py"))}


def nodes(*kinds):
    for path, text in sources().items():
        for node in ast.walk(ast.parse(text)):
            if isinstance(node, kinds):
                yield path, node


class TestInterface(unittest.TestCase):

    def test_methods_stand_in_the_class_itself(self):
        for module, classes in LISTED.items():
            for name, methods in classes.items():
                made = getattr(module, name)
                self.assertEqual(made.__module__, module.__name__)
                for method in methods.split():
                    self.assertIn(method, vars(made), name)

    def test_functions_stand_in_their_file(self):
        for module, names in FUNCTIONS.items():
            for name in names:
                self.assertEqual(getattr(module, name).__module__, module.__name__)
        self.assertEqual(errors.BadRule.__module__, "countsheld.errors")

    def test_parameters(self):
        for function, names in PARAMETERS.items():
            self.assertEqual(list(inspect.signature(function).parameters), names)

    def test_parameters_by_name_only(self):
        for function in PARAMETERS:
            found = inspect.signature(function).parameters.values()
            named = {one.name: one.default for one in found if one.kind == one.KEYWORD_ONLY}
            self.assertEqual(named, BY_NAME_ONLY.get(function, {}))

    def test_kinds_of_methods(self):
        for made, name in ((counts.Counts, "total"), (books.Book, "desk"), (books.Call, "is_open"),
                           (books.Call, "next_line")):
            self.assertIsInstance(vars(made)[name], property)
        for made, name in ((counts.Counts, "of"), (rules.Rules, "of"), (doors.Door, "of"), (desks.Desk, "read")):
            self.assertIsInstance(vars(made)[name], classmethod)
        self.assertTrue(inspect.isgeneratorfunction(rules.Rules.each))
        self.assertTrue(inspect.isgeneratorfunction(judging.possible))
        for name in ("Hold", "Look", "Demand", "Help", "After", "Keep"):
            self.assertTrue(issubclass(getattr(mending, name), mending.Change))


class TestFiles(unittest.TestCase):

    def test_the_folder_contains_python_files_alone(self):
        names = [path.name for path in FOLDER.iterdir() if path.name != "__pycache__"]
        self.assertEqual([name for name in names if not name.endswith(".py")], [])
        self.assertIn("__init__.py", names)

    def test_signs_and_sizes(self):
        for path, text in sources().items():
            lines = text.split("\n")
            self.assertLess(len(lines), 400, path)
            self.assertEqual([line for line in lines if len(line) > 120], [], path)
            self.assertEqual([sign for sign in text if not (" " <= sign <= "~" or sign == "\n")], [], path)

    def test_functions_are_small(self):
        for path, node in nodes(ast.FunctionDef):
            self.assertLessEqual(node.end_lineno - node.lineno + 1, 40, (path, node.name))

    def test_no_warnings(self):
        for path, text in sources().items():
            with warnings.catch_warnings():
                warnings.simplefilter("error")
                compile(text, str(path), "exec")

    def test_imports_name_the_file_that_defines(self):
        for path, _ in nodes(ast.Import):
            self.fail(path)
        for path, node in nodes(ast.ImportFrom):
            self.assertTrue(node.module.startswith("countsheld."), path)
            text = (FOLDER / (node.module.split(".")[1] + ".py")).read_text(encoding="utf-8")
            defined = [one.name for one in ast.parse(text).body if hasattr(one, "name")]
            for alias in node.names:
                self.assertIn(alias.name, defined, path)

    def test_double_underscore_methods(self):
        for path, node in nodes(ast.FunctionDef):
            if node.name.startswith("__"):
                self.assertIn(node.name, DOUBLE, path)

    def test_decorators(self):
        for path, node in nodes(ast.FunctionDef):
            for one in node.decorator_list:
                self.assertIn(ast.unparse(one), ("property", "classmethod", "desk.setter"), (path, node.name))

    def test_calls(self):
        for path, node in nodes(ast.Call):
            self.assertNotIn(ast.unparse(node.func), BARRED_CALLS, path)

    def test_order_takes_plain_numbers_and_strings(self):
        # Counts have an order that is not total, so nothing is sorted by its own order.
        for path, node in nodes(ast.Call):
            name = ast.unparse(node.func)
            if name == "sorted":
                shown = [ast.unparse(one) for one in node.keywords]
                self.assertIn(shown, (["key=str"], ["key=int"]), path)
            if name in ("min", "max"):
                shown = [ast.unparse(one).lstrip("[") for one in node.args]
                self.assertTrue(all(one.startswith("int(") for one in shown), (path, shown))

    def test_no_change_by_signs(self):
        # Beside in-place operators a += could change an object that others hold.
        self.assertEqual([path for path, _ in nodes(ast.AugAssign)], [])

    def test_sets_floats_and_percent(self):
        self.assertEqual([path for path, _ in nodes(ast.Set, ast.SetComp, ast.Div, ast.Global, ast.Lambda)], [])
        for path, node in nodes(ast.Constant):
            self.assertNotIsInstance(node.value, (float, complex), path)
            if isinstance(node.value, str):
                self.assertNotIn("\x25", node.value, path)

    def test_init_of_the_own_base_alone(self):
        for path, made in nodes(ast.ClassDef):
            bases = [ast.unparse(base) for base in made.bases[:1]]
            for node in ast.walk(made):
                if isinstance(node, ast.Attribute) and node.attr == "__init__":
                    self.assertIn(ast.unparse(node.value), bases, (path, made.name))

    def test_no_name_is_a_method_and_an_attribute(self):
        methods, attributes = set(), set()
        for path, made in nodes(ast.ClassDef):
            methods.update(node.name for node in made.body if isinstance(node, ast.FunctionDef))
        for path, node in nodes(ast.Attribute):
            if isinstance(node.ctx, ast.Store):
                attributes.add(node.attr)
        # The one property that is assigned has a setter.
        self.assertEqual(methods & attributes, {"desk"})

    def test_no_call_of_what_an_attribute_holds(self):
        # Behind a dot a method is known by its name alone: what an operator calls must be no attribute, either.
        attributes = {node.attr for _, node in nodes(ast.Attribute) if isinstance(node.ctx, ast.Store)}
        called = {node.func.attr for _, node in nodes(ast.Call) if isinstance(node.func, ast.Attribute)}
        self.assertEqual(called & attributes, set())
        self.assertNotIn("index", called)

    def test_modules_import_only_those_that_can_be_written_before(self):
        imported = {path.stem: set() for path in sources()}
        for path, node in nodes(ast.ImportFrom):
            imported[path.stem].add(node.module.split(".")[1])
        done = set()
        while len(done) < len(imported):
            fresh = [name for name in imported if name not in done and imported[name] <= done]
            self.assertNotEqual(fresh, [], sorted(set(imported) - done))
            done.update(fresh)

    def test_attributes_are_assigned_through_a_name(self):
        for path, node in nodes(ast.Attribute):
            if isinstance(node.ctx, (ast.Store, ast.Del)):
                self.assertIsInstance(node.value, ast.Name, (path, node.lineno))

    def test_no_local_name_is_that_of_an_import_or_a_class(self):
        for path, text in sources().items():
            tree = ast.parse(text)
            taken = {alias.name for node in ast.walk(tree) if isinstance(node, ast.ImportFrom) for alias in node.names}
            taken |= {node.name for node in ast.walk(tree) if isinstance(node, ast.ClassDef)}
            for node in ast.walk(tree):
                if isinstance(node, ast.arg):
                    self.assertNotIn(node.arg, taken, path)
                if isinstance(node, ast.Name) and isinstance(node.ctx, ast.Store):
                    self.assertNotIn(node.id, taken, (path, node.lineno))

    def test_errors_are_caught_by_their_own_names(self):
        for path, node in nodes(ast.ExceptHandler):
            caught = node.type.elts if isinstance(node.type, ast.Tuple) else [node.type]
            for one in caught:
                self.assertEqual(getattr(errors, one.id).__module__, "countsheld.errors", path)
