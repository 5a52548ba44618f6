"""Books: owners, rows and calls, their numbers, and the desk that is exchanged (16, 13, 15)."""

import unittest

from countsheld.books import Book, Call, Owner
from countsheld.counts import Counts
from countsheld.doors import Door
from countsheld.errors import (
    BadDesk, Busy, Full, Named, NoBegin, NoDoor, NoOwner, NoPick, NoRow, NotLoose, Over, Refused, Waits,
)
from countsheld.rules import AtLeast, AtMost, Between, Exactly, Rules
from making import RULES, book_of, desk, refusal, rows
from odd import odd_values

BEGINS = [Counts(b=2, a=1), Counts(), Counts(b=1)]
NO_NUMBERS = odd_values() + [-1, 10 ** 39, "0", (0,), [0]]


class TestOwners(unittest.TestCase):

    def test_numbers_and_rows(self):
        book = Book(desk(begins=BEGINS, d="do new a"))
        self.assertEqual((len(book), book.owners()), (0, []))
        self.assertEqual([book.add_owner(), book.add_owner(1), book.add_owner(begin=2), book.add_owner(0)], [0, 1, 2, 3])
        self.assertEqual((len(book), book.owners()), (4, [0, 1, 2, 3]))
        self.assertEqual([rows(book, at) for at in range(4)], ["0a 1b 2b", "", "0b", "0a 1b 2b"])

    def test_wrong_begins(self):
        book = Book(desk(begins=BEGINS, d="do new a"))
        for begin in NO_NUMBERS + [3]:
            with self.assertRaises(NoBegin) as caught:
                book.add_owner(begin)
            self.assertIs(caught.exception.index, begin)
        self.assertEqual(book.add_owner(2), 0)

    def test_owners_that_are_none(self):
        book = book_of("a", "b", d="do new a")
        for owner in NO_NUMBERS + [2]:
            for act in (lambda: book[owner], lambda: book.come(owner, "x"), lambda: book.leave(owner, 0),
                        lambda: book.begin("d", owner), lambda: book.under_way(owner)):
                with self.assertRaises(NoOwner) as caught:
                    act()
                self.assertIs(caught.exception.owner, owner)
            self.assertIs(owner in book, False)
        self.assertIs(0 in book, True)
        self.assertIs(1 in book, True)

    def test_no_iteration(self):
        book = book_of("a", d="do new a")
        for value in (book, book[0]):
            for action in (iter, list, tuple, sorted):
                with self.assertRaises(TypeError):
                    action(value)

    def test_owners_that_were_joined(self):
        book = book_of("a", "b", "", d="do join")
        book.begin("d", 2, other=1)
        self.assertEqual((len(book), book.owners(), 1 in book), (2, [0, 2], False))
        self.assertEqual(book.add_owner(), 3)
        for act in (lambda: book[1], lambda: book.come(1, "x"), lambda: book.under_way(1), lambda: book.begin("d", 1)):
            with self.assertRaises(NoOwner) as caught:
                act()
            self.assertEqual(caught.exception.owner, 1)

    def test_returned_lists_are_new(self):
        book = book_of("a", d="look a = 1 / do new a")
        book.begin("d", 0)
        for act in (book.owners, lambda: book.under_way(0), book.broken, book.shown, lambda: book[0].numbers_of("a")):
            before = list(act())
            act().append("more")
            self.assertEqual(act(), before)
        book[0].counts()["a"] = 7
        self.assertEqual(book[0].counts(), Counts(a=1))

    def test_two_books_share_nothing(self):
        both = desk(begins=BEGINS, d="look a = 1 / do new b")
        one, two = Book(both), Book(both)
        one.add_owner()
        one.come(0, "x")
        one.begin("d", 0)
        self.assertEqual((two.owners(), len(two)), ([], 0))
        self.assertEqual(two.add_owner(1), 0)
        self.assertEqual((rows(two, 0), two.under_way(0)), ("", []))
        with self.assertRaises(Over):
            two.call(0)
        self.assertEqual(rows(one, 0), "0a 1b 2b 3x")


class TestAnOwner(unittest.TestCase):

    def test_as_it_is_now(self):
        book = book_of("a x b a", d="do all a -> y then new b")
        owner = book[0]
        self.assertIsInstance(owner, Owner)
        self.assertEqual((owner.number, len(owner)), (0, 4))
        self.assertEqual([owner[row] for row in range(4)], ["a", "x", "b", "a"])
        self.assertEqual((owner.numbers_of("a"), owner.numbers_of("x"), owner.numbers_of("y")), ([0, 3], [1], []))
        self.assertEqual(owner.counts(), Counts(a=2, b=1))
        book.begin("d", 0)
        book.leave(0, 1)
        self.assertEqual((owner.number, len(owner)), (0, 4))
        self.assertEqual((owner[0], owner[4]), ("y", "b"))
        self.assertEqual((owner.numbers_of("y"), owner.numbers_of(kind="b")), ([0, 3], [2, 4]))
        self.assertEqual(owner.counts(), Counts(b=2))

    def test_rows_that_are_none(self):
        book = book_of("a x", d="do new a")
        book.leave(0, 1)
        for row in NO_NUMBERS + [1, 2]:
            with self.assertRaises(NoRow) as caught:
                book[0][row]
            self.assertIs(caught.exception.row, row)
            self.assertIs(row in book[0], False)
        self.assertIs(0 in book[0], True)

    def test_one_that_exists_no_longer(self):
        book = book_of("", "a x", d="do join")
        owner = book[1]
        book.begin("d", 0, other=1)
        self.assertEqual((owner.number, len(owner), owner.counts(), owner.numbers_of("a")), (1, 0, Counts(), []))
        self.assertIs(0 in owner, False)
        with self.assertRaises(NoRow):
            owner[0]
        with self.assertRaises(NoRow):
            owner[0] = "b"
        with self.assertRaises(NoRow):
            owner.drop(0)
        self.assertEqual(rows(book, 0), "0a 1x")


class TestLooseRows(unittest.TestCase):

    def test_come_and_leave(self):
        book = book_of("a", "", d="do new a")
        self.assertEqual((book.come(0, "x"), book.come(0, "y"), book.come(1, "x")), (1, 2, 0))
        self.assertIsNone(book.leave(0, 1))
        self.assertEqual((rows(book, 0), rows(book, 1)), ("0a 2y", "0x"))
        self.assertEqual(book.come(owner=0, kind="x"), 3)
        book.leave(owner=0, row=3)
        self.assertEqual(book.come(0, "x"), 4)

    def test_kinds_that_are_not_loose(self):
        book = book_of("a", d="do new a")
        for kind in odd_values() + ["a", "b", "z", "gone", 1, ("x",), ["x"]]:
            with self.assertRaises(NotLoose) as caught:
                book.come(0, kind)
            self.assertIs(caught.exception.kind, kind)
            with self.assertRaises(NoOwner):
                book.come(1, kind)
        self.assertEqual(book.come(0, "x"), 1)

    def test_rows_that_cannot_leave(self):
        book = book_of("a x b", d="look row x or a / do new a")
        for row in NO_NUMBERS + [3]:
            with self.assertRaises(NoRow) as caught:
                book.leave(0, row)
            self.assertIs(caught.exception.row, row)
        for row, kind in ((0, "a"), (2, "b")):
            with self.assertRaises(NotLoose) as caught:
                book.leave(0, row)
            self.assertEqual(caught.exception.kind, kind)
        call = book.begin("d", 0, row=1)
        with self.assertRaises(Named) as caught:
            book.leave(0, 1)
        self.assertEqual(caught.exception.row, 1)
        call.go_on()
        book.leave(0, 1)
        self.assertEqual(rows(book, 0), "0a 2b 3a")

    def test_order_of_the_errors(self):
        book = book_of("a x", d="look row a or x / do new b")
        book.begin("d", 0, row=0)
        with self.assertRaises(NoOwner):
            book.leave(1, 9)
        with self.assertRaises(NotLoose):
            book.leave(0, 0)

    def test_a_row_that_a_call_of_another_owner_names(self):
        book = book_of("x", "x", d="look row x / do new a")
        book.begin("d", 1, row=0)
        book.leave(0, 0)
        with self.assertRaises(Named):
            book.leave(1, 0)

    def test_calls_without_a_named_row(self):
        book = book_of("x", d="look a = 0 / do new a")
        book.begin("d", 0)
        book.leave(0, 0)
        self.assertEqual(rows(book, 0), "")


class TestCalls(unittest.TestCase):

    def test_attributes(self):
        book = book_of("a x", "", d="look row x / do row x -> a / do new b", e="do new a / hold")
        one = book.begin("e", 1)
        two = book.begin("d", 0, row=1)
        for call, wanted in ((one, (0, "e", 1, None)), (two, (1, "d", 0, 1))):
            self.assertIsInstance(call, Call)
            self.assertEqual((call.number, call.door, call.owner, call.row), wanted)
            self.assertEqual((call.is_open, call.next_line), (True, 1))
        self.assertIsNone(one.go_on())
        self.assertEqual((one.is_open, one.next_line), (False, 2))
        two.go_on()
        self.assertEqual((two.is_open, two.next_line), (True, 2))
        two.go_on()
        self.assertEqual((two.is_open, two.next_line), (False, 3))
        self.assertEqual(rows(book, 0), "0a 1a 2b")

    def test_doors_of_one_line(self):
        book = book_of("", d="do new a")
        call = book.begin(door="d", owner=0)
        self.assertEqual((call.is_open, call.next_line, book.under_way(0)), (False, 1, []))
        with self.assertRaises(Over):
            call.go_on()
        self.assertEqual(rows(book, 0), "0a")

    def test_call(self):
        book = book_of("", d="do new a", e="look a = 0 / do new a")
        one = book.begin("d", 0)
        self.assertIsNotNone(refusal(book.begin, "e", 0))
        two = book.begin("d", 0)
        self.assertEqual((one.number, two.number), (0, 2))
        for number, door, lines in ((0, "d", 1), (1, "e", 0), (2, "d", 1)):
            call = book.call(number)
            self.assertEqual((call.number, call.door, call.next_line, call.is_open), (number, door, lines, False))
        for number in NO_NUMBERS + [3]:
            with self.assertRaises(Over) as caught:
                book.call(number)
            self.assertIs(caught.exception.number, number)

    def test_calls_that_are_over(self):
        book = book_of("a", d="look a = 1 / do new a", e="look a = 1 / look a = 2 / do new a")
        done, refused = book.begin("d", 0), book.begin("e", 0)
        done.go_on()
        book[0].drop(1)
        self.assertEqual(refusal(refused.go_on), ("e", 1, ("test", 0)))
        for call in (done, refused):
            for named in ({}, {"other": 5}, {"other": True, "picks": [1]}):
                with self.assertRaises(Over) as caught:
                    call.go_on(**named)
                self.assertEqual(caught.exception.number, call.number)
        self.assertEqual((done.next_line, refused.next_line), (2, 1))

    def test_refused_at_the_first_line(self):
        book = book_of("", d="look a = 1 / do new a")
        with self.assertRaises(Refused) as caught:
            book.begin("d", 0)
        self.assertEqual((caught.exception.door, caught.exception.line, caught.exception.why), ("d", 0, ("test", 0)))
        self.assertEqual(book.under_way(0), [])
        call = book.call(0)
        self.assertEqual((call.number, call.is_open, call.next_line, call.owner, call.row), (0, False, 0, 0, None))

    def test_errors_that_use_no_number(self):
        book = book_of("a", "", d="hold / do give a -> b", e="do one a -> b", f="do give a -> b")
        book.begin("d", 0, row=0)
        for error, named in ((NoDoor, {"door": "z"}), (NoOwner, {"owner": 9}), (NoRow, {"row": 9}), (Waits, {}),
                             (NoOwner, {"other": 1})):
            with self.assertRaises(error):
                book.begin(**{"door": "d", "owner": 0, "row": 0, **named})
        with self.assertRaises(NoPick):
            book.begin("e", 0, picks=[9])
        self.assertEqual(book.begin("e", 0).number, 1)

    def test_under_way(self):
        book = book_of("a", "a", d="look a = 1 / do new b", e="look a = 1 / look a = 1 / do new b")
        calls = [book.begin("d", 0), book.begin("d", 1), book.begin("e", 0), book.begin("d", 0)]
        self.assertEqual((book.under_way(0), book.under_way(owner=1)), ([0, 2, 3], [1]))
        calls[2].go_on()
        self.assertEqual(book.under_way(0), [0, 2, 3])
        calls[0].go_on()
        self.assertEqual((book.under_way(0), book.under_way(1)), ([2, 3], [1]))
        calls[2].go_on()
        calls[3].go_on()
        self.assertEqual((book.under_way(0), book.under_way(1)), ([], [1]))

    def test_calls_at_an_owner_that_was_joined(self):
        book = book_of("", "a", "", d="look a < 9 / do new a", j="do join", h="hold / do new a")
        lost, held, kept = book.begin("d", 1), book.begin("h", 1), book.begin("d", 2)
        book.begin("j", 0, other=1)
        for call in (lost, held):
            self.assertEqual((call.is_open, call.next_line, call.owner), (False, 1, 1))
            self.assertIs(book.call(call.number), call)
            with self.assertRaises(Over) as caught:
                call.go_on()
            self.assertEqual(caught.exception.number, call.number)
        self.assertEqual((kept.is_open, book.under_way(0), book.under_way(2)), (True, [], [2]))
        kept.go_on()
        self.assertEqual((rows(book, 0), rows(book, 2)), ("0a", "0a"))

    def test_the_order_of_the_errors(self):
        book = book_of("a", "", "", limit=2, h="hold / look row a / do give a -> b", g="do take b -> b if row a",
                       i="hold / do one a -> b", j="look a = 1 / do new b")
        named = {"door": "z", "owner": True, "row": True, "other": True, "picks": [True]}
        book.begin("h", 0, row=0)
        book.begin("j", 0)
        for error, next_named in ((NoDoor, {"door": "g"}), (NoOwner, {"owner": 0}), (Full, None)):
            with self.assertRaises(error):
                book.begin(**named)
            named.update(next_named or {})
        book.call(1).go_on()
        for error, next_named in ((NoRow, {"row": 0}), (NoOwner, {"door": "i", "row": None}), (NoOwner, {"other": None}),
                                  (Waits, None)):
            with self.assertRaises(error):
                book.begin(**named)
            named.update(next_named or {})
        self.assertEqual(book.under_way(0), [0])
        self.assertEqual(refusal(book.begin, "g", 0, row=0, other=1, picks=[True]), ("g", 0, ("part", 0)))

    def test_the_order_of_the_errors_of_go_on(self):
        book = book_of("a", "b", h="hold / do take a -> b / do new a", i="hold / do new a")
        call = book.begin("h", 0)
        holding = book.begin("i", 1)
        for other in (None, 0, True):
            with self.assertRaises(NoOwner):
                call.go_on(other=other, picks=[True])
        with self.assertRaises(Waits) as caught:
            call.go_on(other=1, picks=[True])
        self.assertEqual(caught.exception.owner, 1)
        holding.go_on()
        with self.assertRaises(NoPick):
            call.go_on(other=1, picks=[True])
        call.go_on(other=1)
        self.assertEqual(rows(book, 0), "0a 1b")
        with self.assertRaises(NoOwner):
            call.go_on(other=1)


class TestLimit(unittest.TestCase):

    def test_full(self):
        for limit in (1, 2, 3):
            book = book_of("a", "a", limit=limit, d="look a = 1 / do new b", e="do new b")
            calls = [book.begin("d", 0) for _ in range(limit)]
            for name in ("d", "e"):
                with self.assertRaises(Full) as caught:
                    book.begin(name, 0, other=7, row=7)
                self.assertEqual(caught.exception.owner, 0)
            book.begin("e", 1)
            calls[0].go_on()
            self.assertEqual(book.begin("e", 0).number, limit + 1)

    def test_room_behind_a_refusal(self):
        book = book_of("a", limit=1, d="look a = 1 / look a = 2 / do new b")
        for _ in range(3):
            self.assertIsNotNone(refusal(book.begin("d", 0).go_on))
        self.assertEqual(book.begin("d", 0).number, 3)


class TestRules(unittest.TestCase):

    RULES = Rules(Between(1, 2, "b"), AtMost(1, "a", "b"), AtMost(5, "c"), loose=["x"])

    def test_broken(self):
        book = Book(desk(rules=self.RULES, begins=[Counts(b=1)], d="do new b then new b", e="do all b -> gone",
                         f="do new c then new a", j="do join"))
        self.assertEqual(book.broken(), [])
        for _ in range(4):
            book.add_owner()
        self.assertEqual(book.broken(), [])
        book.begin("e", 3)
        book.begin("f", 1)
        book.begin("d", 0)
        self.assertEqual(book.broken(), [(0, 0), (0, 1), (1, 1), (3, 0)])
        book.begin("j", 2, other=0)
        self.assertEqual(book.broken(), [(1, 1), (2, 0), (2, 1), (3, 0)])

    def test_shown(self):
        book = Book(desk(rules=Rules(AtMost(9, "b"), AtMost(9, "abcdefgh"), loose=["x"]), begins=[Counts(b=2)],
                         d="do new abcdefgh", j="do join"))
        self.assertEqual(book.shown(), [])
        for _ in range(3):
            book.add_owner()
        book.come(0, "x")
        for _ in range(12):
            book.begin("d", 2)
        book.begin("j", 0, other=1)
        self.assertEqual(book.shown(), ["   0 abcdefgh   0", "   0 b          4", "   2 abcdefgh  12", "   2 b          2"])

    def test_more_than_the_columns(self):
        book = Book(desk(d="do new a"))
        for _ in range(10001):
            book.add_owner()
        for _ in range(1000):
            book.begin("d", 10000)
        self.assertEqual(book.shown()[-3:], ["9999 b          0", "10000 a       1000", "10000 b          0"])


class TestDesks(unittest.TestCase):

    def test_desk(self):
        one = desk(d="do new a")
        book = Book(desk=one)
        self.assertIs(book.desk, one)

    def test_another_desk(self):
        for assign in (Book.deploy, lambda book, desk: setattr(book, "desk", desk)):
            book = book_of("a", d="do new a", limit=1)
            old = book.begin("d", 0)
            new = desk(begins=[Counts(a=2), Counts(b=1)], limit=2, store=[0], e="look a = 2 / do new b")
            self.assertIsNone(assign(book, new))
            self.assertIs(book.desk, new)
            with self.assertRaises(NoDoor):
                book.begin("d", 0)
            self.assertEqual([book.begin("e", 0).number, book.begin("e", 0).number], [1, 2])
            self.assertEqual((rows(book, book.add_owner()), rows(book, book.add_owner(1))), ("0a 1a", "0b"))
            self.assertEqual((book.call(0).door, old.is_open, old.next_line), ("d", False, 1))

    def test_other_rules(self):
        book = book_of("a", d="do new a")
        before = book.desk
        for rules in (Rules(AtMost(9, "a"), AtMost(8, "b"), loose=["x", "y"]), Rules(AtMost(9, "a"), AtMost(9, "b")),
                      Rules(AtMost(9, "a"), loose=["x", "y"])):
            for act in (book.deploy, lambda new: setattr(book, "desk", new)):
                with self.assertRaises(BadDesk) as caught:
                    act(desk(rules=rules, d="do new a"))
                self.assertEqual(caught.exception.what, "rules")
                self.assertIs(book.desk, before)

    def test_busy(self):
        book = book_of("a", "a", "a", d="look a = 1 / do new b")
        later, first = book.begin("d", 2), book.begin("d", 1)
        new = desk(d="do new a")
        for act in (book.deploy, lambda new: setattr(book, "desk", new)):
            with self.assertRaises(Busy) as caught:
                act(new)
            self.assertEqual(caught.exception.owner, 1)
            with self.assertRaises(BadDesk):
                act(desk(rules=Rules(AtMost(1, "a")), d="do new a"))
        first.go_on()
        with self.assertRaises(Busy) as caught:
            book.deploy(desk=new)
        self.assertEqual(caught.exception.owner, 2)
        later.go_on()
        book.deploy(new)
        self.assertIs(book.desk, new)

    def test_equal_rules_in_another_order(self):
        one = Rules(Exactly(1, "a"), AtMost(2, "b"), loose=["x"])
        two = Rules(AtMost(2, "b"), AtLeast(1, "a"), AtMost(1, "a"), loose=["x"])
        book = Book(desk(rules=one, begins=[Counts(a=1)], d="do new a"))
        book.add_owner()
        book.begin("d", 0)
        self.assertEqual(book.broken(), [(0, 0)])
        book.desk = desk(rules=two, begins=[Counts(a=1)], store=[0], d="do new b")
        self.assertEqual(book.broken(), [(0, 2)])
        book.begin("d", 0)
        book.begin("d", 0)
        self.assertEqual(refusal(book.begin, "d", 0), ("d", 0, ("rule", 0)))


class TestDoorsAsFunctions(unittest.TestCase):

    def test_a_whole_call(self):
        book = book_of("x a", d="look a = 1 / hold / do row x -> a / do new b")
        self.assertEqual(book.desk["d"](book, 0, 0), 0)
        self.assertEqual(rows(book, 0), "0a 1a 2b")
        self.assertEqual((book.call(0).is_open, book.call(0).next_line), (False, 4))

    def test_arguments_by_name(self):
        book = book_of("a a", "", d="look row a / do give a -> b then one a -> x")
        self.assertEqual(book.desk["d"](book=book, owner=0, row=0, other=1, picks=[1]), 0)
        self.assertEqual((rows(book, 0), rows(book, 1)), ("1x", "0b"))

    def test_the_book_s_door(self):
        book = book_of("a a", "a", d="look a >= 1 / do take a -> b / do new x")
        self.assertEqual(Door("d", "do new y")(book, 0, None, 1), 0)
        self.assertEqual((rows(book, 0), rows(book, 1)), ("0a 1a 2b 3x", ""))
        with self.assertRaises(NoDoor) as caught:
            Door("e", "do new y")(book, True)
        self.assertEqual(caught.exception.name, "e")

    def test_the_other_owner_is_told_to_the_line_that_touches_alone(self):
        for lines in ("do take a -> b / do new x / hold", "do new x / do take a -> b / hold", "do new x / hold / do take a -> b"):
            book = book_of("", "a", d=lines)
            self.assertEqual(book.desk["d"](book, 0, other=1), 0)
            self.assertEqual((len(book[0]), rows(book, 1)), (2, ""))
        book = book_of("", "a", d="do new x / do new x")
        self.assertEqual(book.desk["d"](book, 0, other="nobody"), 0)
        self.assertEqual(rows(book, 0), "0x 1x")

    def test_picks_are_told_to_every_line(self):
        book = book_of("a b x a b", d="do one a -> y then one b -> y / do new x / do one b -> x")
        with self.assertRaises(NoPick) as caught:
            book.desk["d"](book, 0, picks=[3, 4])
        self.assertEqual(caught.exception.pick, 3)
        self.assertEqual(rows(book, 0), "0a 1b 2x 3y 4y 5x")
        self.assertEqual(book.under_way(0), [0])
        book = book_of("a a a", d="do one a -> b / do one b -> x / do one a -> y")
        book.desk["d"](book, 0)
        self.assertEqual(rows(book, 0), "0x 1y 2a")

    def test_what_was_done_before_an_error_stays(self):
        book = book_of("a", d="do new b / do new b if a = 1 / look b = 3 / do new x")
        self.assertEqual(refusal(book.desk["d"], book, 0), ("d", 2, ("test", 0)))
        self.assertEqual((rows(book, 0), book.under_way(0), book.call(0).next_line), ("0a 1b 2b", [], 2))

    def test_a_call_that_waits_stays_under_way(self):
        book = book_of("a", d="do new b / hold / do new b", h="hold / do new x")
        holding = book.begin("h", 0)
        with self.assertRaises(Waits):
            book.desk["d"](book, 0)
        self.assertEqual((rows(book, 0), book.under_way(0), book.call(1).next_line), ("0a 1b", [0, 1], 1))
        holding.go_on()
        book.call(1).go_on()
        book.call(1).go_on()
        self.assertEqual(rows(book, 0), "0a 1b 2x 3b")

    def test_errors_of_begin(self):
        book = book_of("a", "", limit=1, d="look row a / do give a -> b", e="look a = 1 / do new b")
        one = book.desk["d"]
        for error, arguments in ((NoOwner, (9, 0, 1)), (NoRow, (0, None, 1)), (NoRow, (0, True, 1))):
            with self.assertRaises(error):
                one(book, *arguments)
        with self.assertRaises(NoOwner):
            one(book, 0, 0)
        self.assertEqual(book.under_way(0), [0])
        with self.assertRaises(Full):
            one(book, 0, 0, 1)
        self.assertEqual(len(RULES.listed), 2)
