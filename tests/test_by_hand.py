"""Changes by hand (18)."""

import unittest

from countsheld.books import Book, by_hand
from countsheld.counts import Counts
from countsheld.errors import BadHistory, BadWord, Broken, NoOwner, NoRow
from countsheld.rules import AtMost, Between, Rules
from making import book_of, desk, refusal, rows
from odd import odd_values

RULES = Rules(Between(1, 2, "a"), AtMost(2, "a", "b"), AtMost(1, "b"), loose=["x", "y"])
NO_KINDS = odd_values() + ["z", "gone", "row", 0, 1, ("a",), ["a"]]
NO_ROWS = odd_values() + [9, -1, 10 ** 39, "0", (0,)]


def book():
    """Return a book with an owner with the rows 0a 1b 2x."""
    made = Book(desk(rules=RULES, begins=[Counts(a=1, b=1)], d="look row a or x / do row a or x -> y", n="do new b",
                     g="do all a -> gone"))
    made.add_owner()
    made.come(0, "x")
    return made


class TestAnOwner(unittest.TestCase):

    def test_other_kinds(self):
        made = book()
        owner = made[0]
        owner[1] = "y"
        owner[2] = "a"
        self.assertEqual(rows(made, 0), "0a 1y 2a")
        owner[0] = "b"
        owner[0] = "b"
        self.assertEqual((rows(made, 0), owner.counts()), ("0b 1y 2a", Counts(a=1, b=1)))

    def test_wrong_rows_and_kinds(self):
        made = book()
        for row in NO_ROWS:
            for kind in ("a", "z", None):
                with self.assertRaises(NoRow) as caught:
                    made[0][row] = kind
                self.assertIs(caught.exception.row, row)
            with self.assertRaises(NoRow) as caught:
                made[0].drop(row)
            self.assertIs(caught.exception.row, row)
        for kind in NO_KINDS:
            with self.assertRaises(BadWord) as caught:
                made[0][0] = kind
            self.assertIs(caught.exception.word, kind)
        self.assertEqual(rows(made, 0), "0a 1b 2x")

    def test_all_rules_that_would_not_hold(self):
        made = book()
        for row, kind, broken in ((2, "b", (1, 2)), (0, "b", (0, 2)), (0, "x", (0,)), (2, "a", (1,))):
            with self.assertRaises(Broken) as caught:
                made[0][row] = kind
            self.assertEqual(caught.exception.rules, broken)
        with self.assertRaises(Broken) as caught:
            made[0].drop(0)
        self.assertEqual(caught.exception.rules, (0,))
        self.assertEqual(rows(made, 0), "0a 1b 2x")

    def test_drop(self):
        made = book()
        self.assertIsNone(made[0].drop(1))
        made[0].drop(row=2)
        self.assertEqual(rows(made, 0), "0a")
        self.assertEqual(made.come(0, "x"), 3)

    def test_all_rules_are_looked_at(self):
        made = book()
        made.begin("n", 0)
        with self.assertRaises(Broken) as caught:
            made[0][2] = "y"
        self.assertEqual(caught.exception.rules, (1, 2))
        with self.assertRaises(Broken):
            made[0].drop(2)
        made[0].drop(3)
        made[0][2] = "y"
        self.assertEqual(rows(made, 0), "0a 1b 2y")

    def test_rows_that_calls_name(self):
        made = book()
        call = made.begin("d", 0, row=2)
        made[0].drop(2)
        self.assertEqual(refusal(call.go_on), ("d", 1, ("part", 0)))

    def test_the_rules_of_the_new_desk(self):
        made = book()
        turned = Rules(AtMost(1, "b"), AtMost(2, "a", "b"), Between(1, 2, "a"), loose=["x", "y"])
        owner = made[0]
        made.desk = desk(rules=turned, begins=[Counts(a=1)], n="do new b")
        with self.assertRaises(Broken) as caught:
            owner[0] = "b"
        self.assertEqual(caught.exception.rules, (0, 2))
        with self.assertRaises(Broken) as caught:
            by_hand(made, 0, [("drop", 0)])
        self.assertEqual(caught.exception.rules, (2,))


class TestByHand(unittest.TestCase):

    def test_edits_in_order(self):
        made = book()
        edits = [("set", 1, "y"), ("add", "a"), ("drop", 0), ("add", "x"), ("set", 4, "b"), ("drop", 2)]
        before = list(edits)
        self.assertEqual(by_hand(made, 0, edits), [3, 4])
        self.assertEqual(edits, before)
        self.assertEqual(rows(made, 0), "1y 3a 4b")

    def test_by_name_and_without_edits(self):
        made = book()
        self.assertEqual(by_hand(book=made, owner=0, edits=[]), [])
        self.assertEqual(rows(made, 0), "0a 1b 2x")

    def test_rows_that_a_later_edit_drops(self):
        made = book()
        self.assertEqual(by_hand(made, 0, [("add", "a"), ("drop", 3), ("add", "x"), ("add", "x"), ("drop", 5)]), [3, 4, 5])
        self.assertEqual((rows(made, 0), made.come(0, "x")), ("0a 1b 2x 4x", 6))

    def test_rules_behind_the_last_edit_only(self):
        made = book()
        by_hand(made, 0, [("drop", 0), ("drop", 1), ("add", "b"), ("add", "b"), ("set", 3, "a")])
        self.assertEqual(rows(made, 0), "2x 3a 4b")

    def test_rules_that_would_not_hold(self):
        made = book()
        for edits, broken in (([("add", "b")], (1, 2)), ([("drop", 0)], (0,)), ([("set", 0, "b")], (0, 2)),
                              ([("drop", 0), ("add", "b"), ("add", "b")], (0, 1, 2))):
            with self.assertRaises(Broken) as caught:
                by_hand(made, 0, edits)
            self.assertEqual(caught.exception.rules, broken)
        self.assertEqual((rows(made, 0), made.come(0, "x")), ("0a 1b 2x", 3))

    def test_rules_without_edits(self):
        made = book()
        made.begin("g", 0)
        with self.assertRaises(Broken) as caught:
            by_hand(made, 0, [])
        self.assertEqual(caught.exception.rules, (0,))
        self.assertEqual(by_hand(made, 0, [("add", "a")]), [3])

    def test_owners_that_are_none(self):
        made = book()
        for owner in odd_values() + [1, -1]:
            with self.assertRaises(NoOwner) as caught:
                by_hand(made, owner, ["no edit"])
            self.assertIs(caught.exception.owner, owner)

    def test_what_is_no_edit(self):
        wrong = odd_values() + [0, "set", ("set",), ("set", 0), ("set", 0, "a", 0), ["set", 0, "a"], ("drop",), ("drop", 0, 0),
                                ["drop", 0], ("add",), ("add", "x", "x"), ["add", "x"], ("Set", 0, "a"), ("put", "x"),
                                (("drop", 0),), (None, 0), (True, 0, "a"), ("drop", "x"), ("add", 0), ("set", "a", 0)]
        wrong.extend(("set", row, "a") for row in NO_ROWS)
        wrong.extend(("drop", row) for row in NO_ROWS)
        wrong.extend(("set", 0, kind) for kind in NO_KINDS)
        wrong.extend(("add", kind) for kind in NO_KINDS)
        for edit in wrong:
            made = book()
            with self.assertRaises(BadHistory) as caught:
                by_hand(made, 0, [("add", "x"), edit, ("add", "b")])
            self.assertEqual(caught.exception.at, 1, edit)
            self.assertEqual((rows(made, 0), made.come(0, "x")), ("0a 1b 2x", 3))

    def test_rows_that_are_there_at_that_time(self):
        made = book()
        for edits, at in (([("drop", 2), ("set", 2, "y")], 1), ([("drop", 3), ("add", "x")], 0),
                          ([("add", "x"), ("drop", 3), ("drop", 3)], 2), ([("set", 3, "x"), ("add", "x")], 0)):
            with self.assertRaises(BadHistory) as caught:
                by_hand(made, 0, edits)
            self.assertEqual(caught.exception.at, at)
        self.assertEqual(by_hand(made, 0, [("add", "x"), ("set", 3, "y"), ("drop", 3)]), [3])

    def test_bad_edits_before_broken_rules(self):
        made = book()
        with self.assertRaises(BadHistory) as caught:
            by_hand(made, 0, [("drop", 0), ("add", "b"), ("drop", 9)])
        self.assertEqual(caught.exception.at, 2)

    def test_an_owner_that_was_joined(self):
        made = book_of("a", "a", j="do join")
        made.begin("j", 0, other=1)
        with self.assertRaises(NoOwner):
            by_hand(made, 1, [])

    def test_the_returned_list_is_new(self):
        made = book()
        first = by_hand(made, 0, [("add", "x")])
        first.append(9)
        self.assertEqual(by_hand(made, 0, [("add", "x")]), [4])
