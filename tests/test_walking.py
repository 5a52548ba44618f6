"""No loop of the package changes what it walks, by whatever name."""

import pathlib
import textwrap
import unittest

from walking import changed_walks

FOLDER = pathlib.Path(__file__).resolve().parent.parent / "countsheld"


def changes_of(body):
    """Return what the loops of a function with these rows change of what they walk."""
    return [change for _, _, change in changed_walks("def work(xs, ys, box):\n" + textwrap.indent(body, "    "))]


class TestPackage(unittest.TestCase):

    def test_no_loop_changes_what_it_walks(self):
        for path in sorted(FOLDER.glob("*.py")):
            self.assertEqual(changed_walks(path.read_text(encoding="utf-8")), [], path)


class TestFinding(unittest.TestCase):

    def test_by_its_own_name(self):
        self.assertEqual(changes_of("for x in xs:\n    xs.append(x)"), ["xs"])
        self.assertEqual(changes_of("for at, x in enumerate(xs):\n    xs[at] = x"), ["xs"])
        self.assertEqual(changes_of("for k, x in xs.items():\n    del xs[k]"), ["xs"])
        self.assertEqual(changes_of("return [xs.pop() for x in xs]"), ["xs"])

    def test_by_a_name_that_means_the_same_behind_the_loop(self):
        layers = "while xs:\n    fresh = {}\n    for x in xs:\n        fresh[x] = True\n    xs = fresh"
        self.assertEqual(changes_of(layers), ["fresh"])
        self.assertEqual(changes_of(layers.replace("in xs", "in list(xs)")), [])
        self.assertEqual(changes_of(layers.replace("= fresh", "= list(fresh)")), [])
        self.assertEqual(changes_of(layers.replace("xs = fresh", "ys, xs = xs, fresh")), ["fresh"])

    def test_by_a_field_an_item_or_a_choice(self):
        self.assertEqual(changes_of("for x in box.rows:\n    box.rows.append(x)"), [".rows"])
        self.assertEqual(changes_of("rows = box.rows\nfor x in rows:\n    box.rows.append(x)"), [".rows"])
        self.assertEqual(changes_of("for x in xs[0]:\n    xs[1].append(x)"), ["xs[]"])
        self.assertEqual(changes_of("both = xs if box else ys\nfor x in xs:\n    both.append(x)"), ["both"])
        self.assertEqual(changes_of("for x in xs or ys:\n    ys.append(x)"), ["ys"])
        self.assertEqual(changes_of("for row in xs:\n    for x in row:\n        row.append(x)"), ["row"])

    def test_other_lists_may_be_changed(self):
        self.assertEqual(changes_of("for x in xs:\n    ys.append(x)"), [])
        self.assertEqual(changes_of("for x in list(xs):\n    xs.remove(x)"), [])
        self.assertEqual(changes_of("ys = xs[1:]\nfor x in xs:\n    ys.append(x)"), [])
        self.assertEqual(changes_of("for row in xs:\n    row.append(1)"), [])
