"""Tests and parts of lines, and picks (12, 13, 17, 20)."""

import itertools
import operator
import unittest

from countsheld.books import Book
from countsheld.counts import Counts
from countsheld.errors import Broken, NoOwner, NoPick, NoRow, Over, Refused
from countsheld.rules import AtLeast, AtMost, Exactly, Rules
from making import RULES, book_of, desk, refusal, rows
from odd import odd_values

SIGNS = {"<": operator.lt, "<=": operator.le, "=": operator.eq, "!=": operator.ne, ">=": operator.ge, ">": operator.gt}


class TestTests(unittest.TestCase):

    def test_sums_and_signs(self):
        for many, (sign, holds), number in itertools.product(range(4), SIGNS.items(), range(4)):
            for kinds in (["a"] * many, ["b"] * many, ["a", "b", "a"][:many]):
                book = book_of(" ".join(kinds + ["x", "y"]), d=f"look a + b {sign} {number} / do new a")
                wanted = None if holds(many, number) else ("d", 0, ("test", 0))
                self.assertEqual(refusal(book.begin, "d", 0), wanted)

    def test_only_the_kinds_of_the_sum(self):
        book = book_of("a b b x", d="look a = 1 and b = 2 and a + b = 3 / do new a")
        self.assertIsNone(refusal(book.begin, "d", 0))

    def test_named_row(self):
        for kind, wanted in (("a", None), ("x", None), ("b", ("d", 0, ("test", 0))), ("y", ("d", 0, ("test", 0)))):
            book = book_of(f"b {kind}", d="look row x or a / do new a")
            self.assertEqual(refusal(book.begin, "d", 0, row=1), wanted)

    def test_the_state_that_a_line_finds(self):
        book = book_of("a", d="look row a / do row a -> b if row a and a = 1", turn="do row a -> b")
        call = book.begin("d", 0, row=0)
        book.begin("turn", 0, row=0)
        self.assertEqual(refusal(call.go_on), ("d", 1, ("test", 0)))

    def test_the_first_test_that_does_not_hold(self):
        book = book_of("a", d="look a = 1 and b = 0 and a = 2 and b = 1 / do new a", e="do new b if a = 1 and b = 1")
        self.assertEqual(refusal(book.begin, "d", 0), ("d", 0, ("test", 2)))
        self.assertEqual(refusal(book.begin, "e", 0), ("e", 0, ("test", 1)))

    def test_tests_of_do_see_the_state_before(self):
        book = book_of("", d="do new a then new a if a = 0", e="do new a then one a -> b if b = 0 and a = 2")
        self.assertIsNone(refusal(book.begin, "d", 0))
        self.assertEqual(rows(book, 0), "0a 1a")
        self.assertIsNone(refusal(book.begin, "e", 0))
        self.assertEqual(rows(book, 0), "0b 1a 2a")

    def test_tests_come_before_parts(self):
        book = book_of("", d="do one a -> b if b = 1")
        self.assertEqual(refusal(book.begin, "d", 0, picks=[7]), ("d", 0, ("test", 0)))

    def test_other(self):
        doors = {"d": "do new y then join if other a = 2 and a = 1 and other a + b >= 3 and row b"}
        book = book_of("a b", "a a b", **doors)
        self.assertIsNone(refusal(book.begin, "d", 0, row=1, other=1))
        for home, other, at in (("a b", "a b", 0), ("a a b", "a a b", 1), ("a b", "a a", 2), ("a a", "a a b", 1),
                                ("a x", "a a b", 3)):
            book = book_of(home, other, **doors)
            self.assertEqual(refusal(book.begin, "d", 0, row=1, other=1), ("d", 0, ("test", at)))

    def test_other_before_the_line(self):
        book = book_of("", "a", d="do take a -> b then new a if other a = 1 and b = 0")
        self.assertIsNone(refusal(book.begin, "d", 0, other=1))
        self.assertEqual((rows(book, 0), rows(book, 1)), ("0b 1a", ""))


class TestParts(unittest.TestCase):

    def after(self, kinds, line, row=None, picks=()):
        """Return the rows behind a call of this line, or why it is refused."""
        book = book_of(kinds, d=line)
        try:
            book.begin("d", 0, row=row, picks=picks)
        except Refused as error:
            self.assertEqual(rows(book, 0), rows(book_of(kinds, d=line), 0))
            return error.why
        return rows(book, 0)

    def test_row(self):
        self.assertEqual(self.after("a b x", "do row a -> b", 0), "0b 1b 2x")
        self.assertEqual(self.after("a b x", "do row x or b -> a", 1), "0a 1a 2x")
        self.assertEqual(self.after("a b x", "do row x or b -> y", 2), "0a 1b 2y")
        self.assertEqual(self.after("a b x", "do row b -> gone", 1), "0a 2x")
        self.assertEqual(self.after("a b x", "do row b -> b", 1), "0a 1b 2x")
        self.assertEqual(self.after("a b x", "do row b -> a", 0), ("part", 0))
        self.assertEqual(self.after("a b x", "do row a or b -> gone", 2), ("part", 0))

    def test_one(self):
        self.assertEqual(self.after("a b a", "do one a -> b"), "0b 1b 2a")
        self.assertEqual(self.after("b a a", "do one a -> gone"), "0b 2a")
        self.assertEqual(self.after("x y x", "do one x -> a"), "0a 1y 2x")
        self.assertEqual(self.after("b b x", "do one a -> b"), ("part", 0))
        self.assertEqual(self.after("", "do one a -> gone"), ("part", 0))

    def test_one_passes_over_the_named_row(self):
        self.assertEqual(self.after("a a", "do one a -> b if row a", 0), "0a 1b")
        self.assertEqual(self.after("a a", "do one a -> b if row a", 1), "0b 1a")
        self.assertEqual(self.after("a b", "do one a -> b if row a", 0), ("part", 0))
        self.assertEqual(self.after("a b", "do row a -> b then one b -> gone", 0), "0b")
        self.assertEqual(self.after("b a", "do row a -> b then one b -> gone", 1), "1b")
        self.assertEqual(self.after("a", "do row a -> b then one b -> gone", 0), ("part", 1))

    def test_all(self):
        self.assertEqual(self.after("a b a x a", "do all a -> b"), "0b 1b 2b 3x 4b")
        self.assertEqual(self.after("a b a x a", "do all a -> gone"), "1b 3x")
        self.assertEqual(self.after("a b a", "do all a -> a"), "0a 1b 2a")
        self.assertEqual(self.after("a b a", "do all b -> y"), "0a 1y 2a")
        self.assertEqual(self.after("b x", "do all a -> b"), "0b 1x")
        self.assertEqual(self.after("", "do all a -> gone"), "")

    def test_all_passes_over_the_named_row(self):
        self.assertEqual(self.after("a a a", "do all a -> gone if row a", 1), "1a")
        self.assertEqual(self.after("a b", "do row a -> b then all b -> gone", 0), "0b")
        self.assertEqual(self.after("a", "do all a -> gone if row a", 0), "0a")

    def test_new(self):
        self.assertEqual(self.after("b x", "do new a"), "0b 1x 2a")
        self.assertEqual(self.after("", "do new y then new a then new y"), "0y 1a 2y")

    def test_each_part_on_what_the_parts_before_left(self):
        self.assertEqual(self.after("", "do new a then one a -> b"), "0b")
        self.assertEqual(self.after("a", "do one a -> gone then one a -> gone"), ("part", 1))
        self.assertEqual(self.after("a", "do one a -> b then all b -> gone then new a then one a -> x"), "1x")
        self.assertEqual(self.after("b a", "do all b -> a then one a -> x then one a -> y"), "0x 1y")
        self.assertEqual(self.after("a", "do new a then one a -> b then row a -> gone", 0), "1b")
        self.assertEqual(self.after("a", "do row a -> gone then one a -> b", 0), ("part", 1))
        self.assertEqual(self.after("a", "do all b -> a then row b -> a then new a", 0), ("part", 1))

    def test_the_first_part_that_is_refused(self):
        self.assertEqual(self.after("a", "do new b then one a -> x then one a -> gone then row b -> a", 0), ("part", 1))
        self.assertEqual(self.after("a", "do new b then one a -> x then one a -> gone"), ("part", 2))
        self.assertEqual(self.after("b", "do new b then new b then new b then one a -> b"), ("part", 3))

    def test_row_numbers(self):
        book = book_of("a", d="do one a -> gone then new a")
        book.begin("d", 0)
        self.assertEqual(rows(book, 0), "1a")
        book.begin("d", 0)
        self.assertEqual(rows(book, 0), "2a")
        book.come(0, "x")
        self.assertEqual(rows(book, 0), "2a 3x")

    def test_refused_lines_use_no_row_number(self):
        rules = Rules(AtMost(1, "a"), AtMost(9, "b"), loose=["x", "y"])
        book = book_of("a", rules=rules, store=[0], d="do new b then new x then row b -> gone",
                       e="do new b then new a", f="do new b then new b then one a -> b")
        self.assertEqual(refusal(book.begin, "d", 0, row=0), ("d", 0, ("part", 2)))
        self.assertEqual(refusal(book.begin, "e", 0), ("e", 0, ("rule", 0)))
        with self.assertRaises(NoPick):
            book.begin("f", 0, picks=[1])
        self.assertEqual(book.come(0, "x"), 1)
        self.assertEqual(rows(book, 0), "0a 1x")

    def test_what_earlier_lines_did_stays(self):
        book = book_of("a", d="do new b / do new b then one b -> a / do new b if a = 9")
        call = book.begin("d", 0)
        call.go_on()
        self.assertEqual(refusal(call.go_on), ("d", 2, ("test", 0)))
        self.assertEqual(rows(book, 0), "0a 1a 2b")
        self.assertEqual((call.next_line, call.is_open), (2, False))


class TestTouching(unittest.TestCase):

    def test_give(self):
        book = book_of("a x", "b", d="do give a or x -> y")
        book.begin("d", 0, row=0, other=1)
        self.assertEqual((rows(book, 0), rows(book, 1)), ("1x", "0b 1y"))
        book.begin("d", 0, row=1, other=1)
        self.assertEqual((rows(book, 0), rows(book, 1)), ("", "0b 1y 2y"))
        self.assertEqual(book.come(0, "x"), 2)

    def test_give_refused(self):
        book = book_of("b", "b", d="do new x then give a -> b")
        self.assertEqual(refusal(book.begin, "d", 0, row=0, other=1), ("d", 0, ("part", 1)))
        self.assertEqual((rows(book, 0), rows(book, 1)), ("0b", "0b"))
        self.assertEqual((book.come(0, "x"), book.come(1, "x")), (1, 1))

    def test_parts_around_give(self):
        book = book_of("a a", "", d="do row a -> b then new a", e="do all a -> b then give a -> a then one b -> gone")
        book.begin("e", 0, row=1, other=1)
        self.assertEqual((rows(book, 0), rows(book, 1)), ("", "0a"))

    def test_take(self):
        book = book_of("a", "b a x a", d="do take a -> b")
        book.begin("d", 0, other=1)
        self.assertEqual((rows(book, 0), rows(book, 1)), ("0a 1b", "0b 2x 3a"))
        book.begin("d", 0, other=1)
        self.assertEqual((rows(book, 0), rows(book, 1)), ("0a 1b 2b", "0b 2x"))
        self.assertEqual(refusal(book.begin, "d", 0, other=1), ("d", 0, ("part", 0)))
        self.assertEqual((book.come(0, "x"), book.come(1, "x")), (3, 4))

    def test_take_a_row_with_the_number_of_the_named_one(self):
        book = book_of("a", "a", d="do take a -> b if row a")
        book.begin("d", 0, row=0, other=1)
        self.assertEqual((rows(book, 0), rows(book, 1)), ("0a 1b", ""))
        book = book_of("a", "a", d="do take a -> b if row a")
        book.begin("d", 0, row=0, other=1, picks=[0])
        self.assertEqual((rows(book, 0), rows(book, 1)), ("0a 1b", ""))

    def test_take_loose(self):
        book = book_of("", "y x y", d="do new a then take y -> x")
        book.begin("d", 0, other=1, picks=(2,))
        self.assertEqual((rows(book, 0), rows(book, 1)), ("0a 1x", "0y 1x"))

    def test_join(self):
        book = book_of("a b", "x a b y", "b", d="do one a -> gone then join then one a -> y then all b -> a")
        book.begin("d", 0, other=1)
        self.assertEqual(rows(book, 0), "1a 2x 3y 4a 5y")
        self.assertEqual(book.owners(), [0, 2])

    def test_join_in_the_order_of_the_old_numbers(self):
        book = book_of("", "a b x", d="do join", e="do one a -> gone then new y")
        book.begin("e", 1)
        book.begin("d", 0, other=1)
        self.assertEqual(rows(book, 0), "0b 1x 2y")

    def test_refused_join_changes_nothing(self):
        book = book_of("", "a b", d="do join then row y -> a")
        book.come(0, "x")
        self.assertEqual(refusal(book.begin, "d", 0, row=0, other=1), ("d", 0, ("part", 1)))
        self.assertEqual((rows(book, 0), rows(book, 1), book.owners()), ("0x", "0a 1b", [0, 1]))

    def test_the_touched_owner_is_told_when_the_line_is_executed(self):
        book = book_of("a", "", "", d="look row a / do give a -> b / do new a")
        for other in (0, 1, 2, True, 7):
            with self.assertRaises(NoOwner) as caught:
                book.begin("d", 0, row=0, other=other)
            self.assertIs(caught.exception.owner, other)
        call = book.begin("d", 0, row=0)
        for other in odd_values() + [0, 3, -1, 10 ** 39]:
            with self.assertRaises(NoOwner) as caught:
                call.go_on(other=other)
            self.assertIs(caught.exception.owner, other)
            self.assertEqual((call.next_line, call.is_open), (1, True))
        call.go_on(other=2)
        with self.assertRaises(NoOwner):
            call.go_on(other=2)
        call.go_on()
        self.assertEqual([rows(book, at) for at in range(3)], ["1a", "", "0b"])

    def test_at_the_first_line(self):
        book = book_of("", "a", "", d="do take a -> b", j="do join")
        for other in odd_values() + [0, 3, -1]:
            with self.assertRaises(NoOwner) as caught:
                book.begin("d", 0, other=other)
            self.assertIs(caught.exception.owner, other)
        book.begin("j", 2, other=1)
        with self.assertRaises(NoOwner) as caught:
            book.begin("d", 0, other=1)
        self.assertEqual(caught.exception.owner, 1)
        self.assertEqual(rows(book, 2), "0a")


class TestNamedRows(unittest.TestCase):

    def test_another_kind(self):
        book = book_of("a", d="look row a / do row a -> b / do row a -> x", e="do row a -> x")
        call = book.begin("d", 0, row=0)
        book.begin("e", 0, row=0)
        self.assertEqual(refusal(call.go_on), ("d", 1, ("part", 0)))
        self.assertEqual(rows(book, 0), "0x")

    def test_another_kind_and_back(self):
        book = book_of("a", d="look row a / do row a -> b", e="do row a -> x / do row x -> a")
        call = book.begin("d", 0, row=0)
        book.begin("e", 0, row=0).go_on()
        call.go_on()
        self.assertEqual(rows(book, 0), "0b")

    def test_gone(self):
        for line in ("do row a or b or x -> b", "do new a if row a or b or x", "look row a or x"):
            book = book_of("a", d=f"look row a / {line} / do new a", e="do row a -> gone")
            call = book.begin("d", 0, row=0)
            book.begin("e", 0, row=0)
            self.assertIsNotNone(refusal(call.go_on))
            self.assertEqual(rows(book, 0), "")

    def test_left_and_come_back(self):
        book = book_of("a", "", d="look row a / do row a -> b", e="do give a -> a")
        call = book.begin("d", 0, row=0)
        book.begin("e", 0, row=0, other=1)
        book.begin("e", 1, row=0, other=0)
        self.assertEqual(rows(book, 0), "1a")
        self.assertEqual(refusal(call.go_on), ("d", 1, ("part", 0)))

    def test_a_row_that_has_left_is_not_passed_over(self):
        book = book_of("a a", d="look row a / do one a -> b", e="do row a -> gone")
        call = book.begin("d", 0, row=0)
        book.begin("e", 0, row=0)
        call.go_on()
        self.assertEqual(rows(book, 0), "1b")

    def test_wrong_rows(self):
        book = book_of("a", d="do row a -> b", e="do new a", f="look a = 1 / do new a if row a", g="hold / do give a -> b")
        for row in odd_values() + [1, -1, 10 ** 39]:
            for name in ("d", "f", "g"):
                with self.assertRaises(NoRow) as caught:
                    book.begin(name, 0, row=row)
                self.assertIs(caught.exception.row, row)
            if row is not None:
                with self.assertRaises(NoRow) as caught:
                    book.begin("e", 0, row=row)
                self.assertIs(caught.exception.row, row)
        with self.assertRaises(NoRow):
            book.begin("e", 0, row=0)
        book.begin("d", 0, row=0)
        self.assertEqual(rows(book, 0), "0b")


class TestPicks(unittest.TestCase):

    def test_one(self):
        for pick in (0, 2, 3):
            book = book_of("a b a a", d="do one a -> x")
            book.begin("d", 0, picks=[pick])
            self.assertEqual(book[0][pick], "x")
            self.assertEqual(book[0].numbers_of("x"), [pick])

    def test_a_single_row_to_choose_from(self):
        book = book_of("a b", d="do one a -> x")
        for pick in (1, 2, True, False, None, "0"):
            with self.assertRaises(NoPick) as caught:
                book.begin("d", 0, picks=[pick])
            self.assertIs(caught.exception.pick, pick)
        self.assertEqual(rows(book, 0), "0a 1b")
        book.begin("d", 0, picks=(0,))
        self.assertEqual(rows(book, 0), "0x 1b")

    def test_any_values(self):
        book = book_of("a a", "a a", d="do one a -> x", e="do take a -> x")
        for pick in odd_values() + [2, -1, 10 ** 39]:
            with self.assertRaises(NoPick) as caught:
                book.begin("d", 0, picks=[pick])
            self.assertIs(caught.exception.pick, pick)
            with self.assertRaises(NoPick) as caught:
                book.begin("e", 0, other=1, picks=(pick, 0))
            self.assertIs(caught.exception.pick, pick)
        self.assertEqual((rows(book, 0), rows(book, 1)), ("0a 1a", "0a 1a"))
        with self.assertRaises(Over):
            book.call(0)

    def test_one_after_another(self):
        book = book_of("a a a", d="do one a -> b then one a -> x then one a -> y")
        book.begin("d", 0, picks=[2, 0])
        self.assertEqual(rows(book, 0), "0x 1y 2b")
        book = book_of("a a", "b b", d="do one a -> y then take b -> x then one a -> gone")
        book.begin("d", 0, other=1, picks=[1, 1, 0])
        self.assertEqual((rows(book, 0), rows(book, 1)), ("1y 2x", "0b"))

    def test_other_parts_use_none(self):
        book = book_of("a a a", d="do row a -> x then new b then all b -> y then one a -> b")
        book.begin("d", 0, row=0, picks=[2])
        self.assertEqual(rows(book, 0), "0x 1a 2b 3y")

    def test_further_picks_mean_nothing(self):
        book = book_of("a a", d="do one a -> b", e="do new x", f="look a = 1 / do new a")
        book.begin("d", 0, picks=[1, 99, None, True])
        book.begin("e", 0, picks=["no row"])
        call = book.begin("f", 0, picks=[17])
        call.go_on(picks=(17, None))
        self.assertEqual(rows(book, 0), "0a 1b 2x 3a")

    def test_for_each_line_anew(self):
        book = book_of("a a a", d="do one a -> b / do one a -> x")
        call = book.begin("d", 0, picks=[1, 2])
        call.go_on()
        self.assertEqual(rows(book, 0), "0x 1b 2a")

    def test_the_named_row_cannot_be_picked(self):
        book = book_of("a a", d="do one a -> b if row a")
        with self.assertRaises(NoPick):
            book.begin("d", 0, row=1, picks=[1])
        book.begin("d", 0, row=1, picks=[0])
        self.assertEqual(rows(book, 0), "0b 1a")

    def test_nothing_to_choose_from(self):
        book = book_of("b", "b", d="do one a -> b", e="do take a -> b", f="do one a -> b if row b")
        for picks in ([], [0], [99], [None], [True, 1]):
            self.assertEqual(refusal(book.begin, "d", 0, picks=picks), ("d", 0, ("part", 0)))
            self.assertEqual(refusal(book.begin, "e", 0, other=1, picks=picks), ("e", 0, ("part", 0)))
            self.assertEqual(refusal(book.begin, "f", 0, row=0, picks=picks), ("f", 0, ("part", 0)))

    def test_whichever_comes_first(self):
        book = book_of("a", d="do one a -> b then one a -> b", e="do one b -> a then one a -> b")
        with self.assertRaises(NoPick):
            book.begin("d", 0, picks=[5])
        self.assertEqual(refusal(book.begin, "d", 0, picks=[0, 5]), ("d", 0, ("part", 1)))
        self.assertEqual(refusal(book.begin, "e", 0, picks=[5, 5]), ("e", 0, ("part", 0)))
        book = book_of("a", d="do new a then one a -> b then one b -> x then row b -> x")
        with self.assertRaises(NoPick) as caught:
            book.begin("d", 0, row=0, picks=[1, 0])
        self.assertEqual(caught.exception.pick, 0)

    def test_picks_before_the_rules_of_the_store(self):
        rules = Rules(AtMost(1, "a"), loose=["x", "y"])
        book = book_of("a x", rules=rules, store=[0], d="do one x -> a")
        with self.assertRaises(NoPick):
            book.begin("d", 0, picks=[0])
        self.assertEqual(refusal(book.begin, "d", 0, picks=[1]), ("d", 0, ("rule", 0)))

    def test_a_row_that_came_before_in_the_line(self):
        book = book_of("a", "x", d="do new a then one a -> b then take x -> a")
        book.begin("d", 0, other=1, picks=[1])
        self.assertEqual(rows(book, 0), "0a 1b 2a")

    def test_a_wrong_pick_leaves_the_call_where_it_is(self):
        book = book_of("a a", d="look a = 2 / do one a -> b / do new x")
        call = book.begin("d", 0)
        with self.assertRaises(NoPick):
            call.go_on(picks=[2])
        self.assertEqual((call.next_line, call.is_open, rows(book, 0)), (1, True, "0a 1a"))
        call.go_on(picks=[1])
        self.assertEqual((call.next_line, call.is_open, rows(book, 0)), (2, True, "0a 1b"))

    def test_passed_picks_are_not_changed(self):
        book = book_of("a a", d="do one a -> b")
        picks = [1, 0]
        book.begin("d", 0, picks=picks)
        self.assertEqual(picks, [1, 0])


class TestStore(unittest.TestCase):

    RULES = Rules(AtMost(2, "a"), Exactly(1, "b"), AtLeast(1, "a", "b"), AtMost(3, "a"), loose=["x", "y"])

    def book(self, *store, **doors):
        book = Book(desk(rules=self.RULES, begins=[Counts(b=1), Counts(a=2, b=1)], store=store, **doors))
        book.add_owner(0)
        book.add_owner(1)
        return book

    def test_rules_that_the_store_does_not_keep(self):
        book = self.book(d="do new a then new a then new b")
        for _ in range(3):
            self.assertIsNone(refusal(book.begin, "d", 1))
        self.assertEqual(book[1].counts(), Counts(a=8, b=4))

    def test_home(self):
        book = self.book(1, d="do new a then new b")
        with self.assertRaises(Refused) as caught:
            book.begin("d", 0)
        self.assertEqual((caught.exception.door, caught.exception.line, caught.exception.why), ("d", 0, ("rule", 1)))
        self.assertIsInstance(caught.exception.__cause__, Broken)
        self.assertEqual(caught.exception.__cause__.rules, (1,))
        self.assertEqual(rows(book, 0), "0b")

    def test_the_smallest_index(self):
        lines = "do new b then new a then new a"
        for store, at in (((0, 1, 3), 0), ((3, 1, 0), 0), ((1, 3), 1), ((3,), 3), ((2,), None)):
            book = self.book(*store, d=lines)
            self.assertEqual(refusal(book.begin, "d", 1), None if at is None else ("d", 0, ("rule", at)))

    def test_no_other_refusal_has_a_cause(self):
        book = self.book(0, 1, d="do new a if a = 9", e="do one a -> b")
        for name, why in (("d", ("test", 0)), ("e", ("part", 0))):
            with self.assertRaises(Refused) as caught:
                book.begin(name, 0)
            self.assertEqual(caught.exception.why, why)
            self.assertIsNone(caught.exception.__cause__)

    def test_only_at_the_end_of_the_parts(self):
        book = self.book(0, 1, 2, 3, d="do one b -> gone then new b", e="do new b then new b then one b -> x then one b -> y")
        self.assertIsNone(refusal(book.begin, "d", 0))
        self.assertIsNone(refusal(book.begin, "e", 0))
        self.assertEqual(rows(book, 0), "1x 2y 3b")

    def test_at_every_line_do(self):
        book = self.book(1, d="do new a / do new b / do one b -> gone")
        call = book.begin("d", 0)
        self.assertEqual(refusal(call.go_on), ("d", 1, ("rule", 1)))
        self.assertEqual(rows(book, 0), "0b 1a")

    def test_the_home_and_then_the_touched_owner(self):
        book = self.book(0, 1, d="do give a -> a", e="do take b -> a", f="do take b -> x", g="do give b -> x")
        book.add_owner(1)
        self.assertEqual(refusal(book.begin, "d", 1, row=0, other=2), ("d", 0, ("rule", 0)))
        self.assertEqual(refusal(book.begin, "e", 1, other=0), ("e", 0, ("rule", 0)))
        self.assertEqual(refusal(book.begin, "f", 1, other=0), ("f", 0, ("rule", 1)))
        self.assertEqual(refusal(book.begin, "g", 1, row=2, other=0), ("g", 0, ("rule", 1)))
        self.assertEqual([rows(book, at) for at in range(3)], ["0b", "0a 1a 2b", "0a 1a 2b"])

    def test_a_greater_index_at_home_comes_before_the_touched_owner(self):
        book = self.book(0, 1, d="do give b -> a")
        book.add_owner(1)
        self.assertEqual(refusal(book.begin, "d", 0, row=0, other=1), ("d", 0, ("rule", 1)))

    def test_not_for_an_owner_that_was_joined(self):
        book = self.book(2, d="do join")
        self.assertIsNone(refusal(book.begin, "d", 0, other=1))
        self.assertEqual(rows(book, 0), "0b 1a 2a 3b")
        book = self.book(0, 1, d="do join then one b -> gone")
        self.assertIsNone(refusal(book.begin, "d", 0, other=1))
        self.assertEqual(rows(book, 0), "1a 2a 3b")
        book = self.book(0, 1, d="do join")
        self.assertEqual(refusal(book.begin, "d", 0, other=1), ("d", 0, ("rule", 1)))
        self.assertEqual(book.owners(), [0, 1])

    def test_lines_that_change_nothing(self):
        book = self.book(d="do new b")
        book.begin("d", 0)
        book.desk = desk(rules=self.RULES, begins=[Counts(b=1)], store=[1], d="hold / look b = 2 / do all a -> gone")
        call = book.begin("d", 0)
        call.go_on()
        self.assertEqual(refusal(call.go_on), ("d", 2, ("rule", 1)))

    def test_loose_kinds_have_no_rules(self):
        book = Book(desk(rules=RULES, store=[0, 1], d="do new x then new x then new y"))
        book.add_owner()
        for _ in range(20):
            book.begin("d", 0)
        self.assertEqual(len(book[0]), 60)
