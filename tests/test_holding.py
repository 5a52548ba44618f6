"""Lines `hold`, and what waits (11)."""

import unittest

from countsheld.errors import Full, Waits
from making import book_of, refusal, rows


class TestHolding(unittest.TestCase):

    def waits(self, owner, act, *arguments, **named):
        with self.assertRaises(Waits) as caught:
            act(*arguments, **named)
        self.assertEqual(caught.exception.owner, owner)

    def test_until_the_call_ends(self):
        book = book_of("a", h="hold / look a = 1 / do new b")
        one = book.begin("h", 0)
        self.waits(0, book.begin, "h", 0)
        one.go_on()
        self.waits(0, book.begin, "h", 0)
        one.go_on()
        self.assertEqual(book.begin("h", 0).number, 1)

    def test_a_refusal_ends_the_call(self):
        book = book_of("a", h="hold / look a = 2 / do new b")
        self.assertIsNotNone(refusal(book.begin("h", 0).go_on))
        self.assertEqual(book.begin("h", 0).number, 1)

    def test_other_owners_are_not_held(self):
        book = book_of("a", "a", h="hold / do new b")
        book.begin("h", 0)
        self.assertEqual(book.begin("h", 1).number, 1)

    def test_calls_that_do_not_hold_go_on(self):
        book = book_of("a x", "", h="hold / do new b", d="look a = 1 / do row x -> b / do one a -> y")
        call = book.begin("d", 0, row=1)
        book.begin("h", 0)
        call.go_on()
        call.go_on()
        self.assertIsNotNone(refusal(book.begin, "d", 0, row=1))
        self.assertEqual(rows(book, 0), "0y 1b")

    def test_a_line_that_waits_does_nothing_and_can_be_tried_again(self):
        book = book_of("a", h="hold / do new b", d="do new x / hold / do new y")
        call, holding = book.begin("d", 0), book.begin("h", 0)
        for _ in range(3):
            self.waits(0, call.go_on)
            self.assertEqual((call.next_line, call.is_open, rows(book, 0)), (1, True, "0a 1x"))
        holding.go_on()
        call.go_on()
        self.assertEqual(call.next_line, 2)
        call.go_on()
        self.assertEqual(rows(book, 0), "0a 1x 2b 3y")

    def test_hold_behind_other_lines(self):
        book = book_of("a", d="look a = 1 / hold / do new b")
        one, two = book.begin("d", 0), book.begin("d", 0)
        two.go_on()
        self.waits(0, one.go_on)
        self.assertEqual(book.begin("d", 0).number, 2)
        two.go_on()
        one.go_on()
        one.go_on()
        self.assertEqual(rows(book, 0), "0a 1b 2b")

    def test_hold_as_the_last_line(self):
        book = book_of("a", d="do new b / hold", h="hold / do new x")
        one, two, three = book.begin("d", 0), book.begin("d", 0), book.begin("h", 0)
        self.waits(0, one.go_on)
        three.go_on()
        one.go_on()
        self.assertIs(one.is_open, False)
        two.go_on()
        self.assertEqual(rows(book, 0), "0a 1b 2b 3x")

    def test_a_call_that_waits_has_not_begun(self):
        book = book_of("a", limit=2, h="hold / do new b", d="do new x")
        holding = book.begin("h", 0)
        self.waits(0, book.begin, "h", 0)
        self.assertEqual(book.under_way(0), [0])
        self.assertEqual(book.begin("d", 0).number, 1)
        holding.go_on()
        self.assertEqual(book.begin("h", 0).number, 2)

    def test_full_before_waiting(self):
        book = book_of("a", limit=1, h="hold / do new b")
        book.begin("h", 0)
        with self.assertRaises(Full):
            book.begin("h", 0)

    def test_an_owner_that_was_joined_is_held_no_more(self):
        book = book_of("a", "a", h="hold / do new b", j="do join")
        book.begin("h", 1)
        book.begin("j", 0, other=1)
        self.assertEqual(book.begin("h", 0).number, 2)


class TestTouching(unittest.TestCase):

    def waits(self, owner, act, *arguments, **named):
        with self.assertRaises(Waits) as caught:
            act(*arguments, **named)
        self.assertEqual(caught.exception.owner, owner)

    def test_a_call_that_holds_waits_for_the_touched_owner(self):
        for lines, row in (("hold / do give a -> b", 0), ("hold / do take a -> b", None), ("hold / do join", None)):
            book = book_of("a", "a", "a", t=lines, h="hold / do new x")
            call = book.begin("t", 0, row=row)
            holding = book.begin("h", 1)
            self.waits(1, call.go_on, other=1)
            self.waits(1, call.go_on, other=1)
            self.assertEqual((call.next_line, call.is_open, rows(book, 0), rows(book, 1)), (1, True, "0a", "0a"))
            holding.go_on()
            call.go_on(other=1)
            self.assertIs(call.is_open, False)

    def test_another_touched_owner(self):
        book = book_of("a", "a", "a", t="hold / do take a -> b", h="hold / do new x")
        call = book.begin("t", 0)
        book.begin("h", 1)
        self.waits(1, call.go_on, other=1)
        call.go_on(other=2)
        self.assertEqual((rows(book, 0), rows(book, 2)), ("0a 1b", ""))

    def test_a_call_that_does_not_hold_does_not_wait(self):
        book = book_of("a", "a a", t="look a = 1 / do take a -> b / hold", h="hold / do new x", u="do take a -> y")
        call = book.begin("t", 0)
        book.begin("h", 1)
        book.begin("h", 0)
        call.go_on(other=1)
        book.begin("u", 0, other=1)
        self.assertEqual((rows(book, 0), rows(book, 1)), ("0a 1b 2y", ""))

    def test_a_touched_owner_with_calls_that_do_not_hold(self):
        book = book_of("a", "a", t="hold / do take a -> b", d="look a = 1 / hold / do new x")
        call, other = book.begin("t", 0), book.begin("d", 1)
        call.go_on(other=1)
        other.go_on()
        self.assertEqual((rows(book, 0), rows(book, 1)), ("0a 1b", ""))

    def test_both_wait(self):
        book = book_of("a", "a", t="hold / do take a -> b")
        one, two = book.begin("t", 0), book.begin("t", 1)
        self.waits(1, one.go_on, other=1)
        self.waits(0, two.go_on, other=0)
        self.assertEqual((book.under_way(0), book.under_way(1)), ([0], [1]))

    def test_lines_that_do_not_touch_go_on(self):
        book = book_of("a", "a", t="hold / do new x / do take a -> b", h="hold / do new x")
        call = book.begin("t", 0)
        book.begin("h", 1)
        call.go_on()
        self.waits(1, call.go_on, other=1)
        self.assertEqual(rows(book, 0), "0a 1x")
