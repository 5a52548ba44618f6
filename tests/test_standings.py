"""Standings of owners, and which values are standings (21, 22, 26)."""

import unittest

from countsheld.books import Book, by_hand
from countsheld.counts import Counts
from countsheld.errors import BadStanding, NoOwner, Refused
from countsheld.rules import AtMost, Exactly, Rules
from countsheld.standings import alone, at_rest, is_standing, meeting, standing_of
from making import desk
from odd import odd_values

MARK = desk(rules=Rules(AtMost(1, "main"), loose=["plain"]), limit=2, mark="look main = 0 / do row plain -> main")
ONE = ("plain", (("mark", 1),))
RULES = Rules(AtMost(9, "a"), AtMost(9, "b"), loose=["x", "y"])
# Doors that name a row (row, turn, give) and doors that name none (new, hold).
DESK = desk(rules=RULES, begins=[Counts(a=2), Counts(b=9, a=1)], row="look row a or b or x / do row a or b or x -> gone",
            turn="look a >= 0 / do row x -> a / look a >= 0 / do row a -> b", give="look a >= 0 / do give a or b or x -> y",
            new="look a >= 0 / do new b / do new a", hold="hold / look b >= 0 / do new b")



class TestStandingOf(unittest.TestCase):

    def begun(self, book, *calls):
        for name, owner, row in calls:
            book.begin(name, owner, row=row)
        return book

    def test_the_example(self):
        book = Book(MARK)
        book.add_owner()
        self.assertEqual(standing_of(book, 0), ((0,), ()))
        for _ in range(2):
            book.come(0, "plain")
        self.begun(book, ("mark", 0, 1), ("mark", 0, 0))
        self.assertEqual(standing_of(book, 0), ((0,), (ONE, ONE)))
        book.call(0).go_on()
        self.assertEqual(standing_of(book, 0), ((1,), (ONE,)))
        book.call(1).go_on()
        self.assertEqual(standing_of(book=book, owner=0), ((2,), ()))

    def test_two_calls_of_one_row(self):
        book = Book(MARK)
        book.add_owner()
        book.come(0, "plain")
        self.begun(book, ("mark", 0, 0), ("mark", 0, 0))
        self.assertEqual(standing_of(book, 0), ((0,), (("plain", (("mark", 1), ("mark", 1))),)))
        book.call(1).go_on()
        self.assertEqual(standing_of(book, 0), ((1,), (("main", (("mark", 1),)),)))
        with self.assertRaises(Refused):
            book.call(0).go_on()
        self.assertEqual(standing_of(book, 0), ((1,), ()))

    def test_labels(self):
        book = Book(DESK)
        book.add_owner(1)
        row = book.come(0, "x")
        self.begun(book, ("turn", 0, row), ("new", 0, None), ("row", 0, 0))
        book.call(1).go_on()
        wanted = (("", (("new", 2),)), ("a", (("row", 1),)), ("x", (("turn", 1),)))
        self.assertEqual(standing_of(book, 0), ((1, 10), wanted))
        book.call(0).go_on()
        wanted = (("", (("new", 2),)), ("a", (("row", 1),)), ("a", (("turn", 2),)))
        self.assertEqual(standing_of(book, 0), ((2, 10), wanted))
        book.call(0).go_on()
        book.call(2).go_on()
        self.assertEqual(standing_of(book, 0), ((1, 10), (("", (("new", 2),)), ("a", (("turn", 3),)))))

    def test_gone_rows(self):
        book = Book(DESK)
        for _ in range(2):
            book.add_owner()
        self.begun(book, ("row", 0, 0), ("give", 0, 0), ("row", 0, 1))
        self.assertEqual(standing_of(book, 0), ((2, 0), (("a", (("give", 1), ("row", 1))), ("a", (("row", 1),)))))
        book.call(1).go_on(other=1)
        self.assertEqual(standing_of(book, 0), ((1, 0), (("a", (("row", 1),)), ("gone", (("row", 1),)))))
        self.assertEqual(standing_of(book, 1), ((2, 0), ()))
        by_hand(book, 0, [("drop", 1)])
        self.assertEqual(standing_of(book, 0), ((0, 0), (("gone", (("row", 1), ("row", 1))),)))
        for number in (0, 2):
            with self.assertRaises(Refused):
                book.call(number).go_on()
        self.assertEqual(standing_of(book, 0), ((0, 0), ()))

    def test_calls_and_groups_ascend(self):
        lines = "look a >= 0 / look a >= 0 / do row x -> x"
        book = Book(desk(limit=3, z="look a >= 0 / do new a", zz=lines, q=lines))
        book.add_owner()
        for kind in "yxx":
            book.come(0, kind)
        self.begun(book, ("zz", 0, 2), ("z", 0, None), ("q", 0, 2))
        self.assertEqual(standing_of(book, 0)[1], (("", (("z", 1),)), ("x", (("q", 1), ("zz", 1)))))
        book.call(1).go_on()
        book.call(0).go_on()
        book.begin("zz", 0, row=1)
        self.assertEqual(standing_of(book, 0)[1], (("x", (("q", 1), ("zz", 2))), ("x", (("zz", 1),))))
        book.call(3).go_on()
        book.call(2).go_on()
        self.assertEqual(standing_of(book, 0)[1], (("x", (("q", 2), ("zz", 2))), ("x", (("zz", 2),))))
        book.call(2).go_on()
        book.begin("zz", 0, row=2)
        # A group that is a beginning of another one stands ahead of it.
        self.assertEqual(standing_of(book, 0)[1], (("x", (("zz", 1), ("zz", 2))), ("x", (("zz", 2),))))
        book.call(3).go_on()
        book.call(4).go_on()
        book.begin("zz", 0, row=1)
        book.call(5).go_on()
        self.assertEqual(standing_of(book, 0)[1], (("x", (("zz", 2),)), ("x", (("zz", 2), ("zz", 2)))))

    def test_more_than_nine_rows(self):
        book = Book(desk(many="do new a then new a then new a then new a", slow="look a > 3 / do new a"))
        book.add_owner()
        for _ in range(3):
            book.begin("many", 0)
        book.begin("slow", 0)
        self.assertEqual(standing_of(book, 0), ((12, 0), (("", (("slow", 1),)),)))

    def test_an_owner_that_is_joined(self):
        book = Book(desk(join="do join", wait="look a >= 0 / do new a"))
        for _ in range(2):
            book.add_owner()
        book.begin("wait", 1)
        book.begin("join", 0, other=1)
        self.assertEqual(standing_of(book, 0), ((0, 0), ()))
        with self.assertRaises(NoOwner) as caught:
            standing_of(book, 1)
        self.assertEqual(caught.exception.owner, 1)

    def test_no_owner(self):
        book = Book(MARK)
        book.add_owner()
        for value in [*odd_values(), 1, -1, 0.5]:
            with self.assertRaises(NoOwner) as caught:
                standing_of(book, value)
            self.assertIs(caught.exception.owner, value)

    def test_at_rest(self):
        self.assertEqual(at_rest(MARK, Counts(main=1, other=3)), ((1,), ()))
        self.assertEqual(at_rest(counts=Counts(b=12), desk=DESK), ((0, 12), ()))


class TestIsStanding(unittest.TestCase):

    def yes(self, standing, used=DESK):
        self.assertIs(is_standing(used, standing), True, standing)

    def no(self, standing, used=DESK):
        self.assertIs(is_standing(used, standing), False, standing)

    def groups(self, *groups):
        return (2, 3), groups

    def test_standings(self):
        self.yes(((0, 99), ()))
        self.yes(((2, 0), ()))
        self.yes(self.groups(("", (("hold", 1),))))
        self.yes(self.groups(("", (("hold", 2), ("new", 1), ("new", 2))),))
        self.yes(self.groups(("a", (("row", 1),)), ("a", (("row", 1),)), ("b", (("give", 1),))))
        self.yes(self.groups(("", (("new", 1),)), ("gone", (("row", 1),)), ("y", (("turn", 3),))))
        self.yes(((0, 0), (("x", (("row", 1),)), ("x", (("row", 1),)), ("x", (("row", 1),)))))
        self.assertTrue(is_standing(thing=((1,), (ONE, ONE)), desk=MARK))

    def test_the_numbers(self):
        for numbers in ((), (1,), (1, 2, 3), [1, 2], (-1, 0), (0, 100), (True, 1), (1, False), (1, None), (1, "1"),
                        None, 1, "12"):
            self.no((numbers, ()))

    def test_other_values(self):
        for value in [*odd_values(), ((1, 2), (), ()), ((1, 2),), [(1, 2), ()], ((1, 2), []), ((1, 2), None),
                      ((1, 2), ((),)), ((1, 2), ("a",))]:
            self.no(value)

    def test_the_form_of_groups(self):
        call = ("row", 1)
        for group in (("a",), ("a", (call,), ()), ["a", (call,)], ("a", [call]), ("a", call), ("a", ()), ("a", None),
                      ("a", (["row", 1],)), ("a", (("row",),)), ("a", (("row", 1, 1),)), ("a", ("row", 1)), None, 1):
            self.no(self.groups(group))
        self.no(((2, 3), [("a", (call,))]))
        self.yes(self.groups(("a", (call,))))

    def test_labels_and_doors(self):
        for label in ("c", "main", "hold", "A", None, 1, True, ("a",), Counts(a=1)):
            self.no(self.groups((label, (("row", 1),))))
        for name in ("other", "", "Row", None, 1, True, ("row",), "x" * 3000):
            self.no(self.groups(("a", ((name, 1),))))

    def test_lines(self):
        for at in (0, 2, 3, -1, True, False, None, "1", (1,)):
            self.no(self.groups(("a", (("row", at),))))
        for at in (1, 2, 3):
            self.yes(self.groups(("x", (("turn", at),))))
        for at in (0, 4, 5):
            self.no(self.groups(("x", (("turn", at),))))

    def test_groups_without_rows(self):
        call, unnamed = ("row", 1), ("new", 1)
        self.yes(self.groups(("", (unnamed,)), ("gone", (call,))))
        self.yes(self.groups(("", (unnamed, unnamed)), ("gone", (call,))))
        self.no(self.groups(("", (unnamed,)), ("", (unnamed,))))
        self.no(self.groups(("gone", (call,)), ("gone", (call,))))
        self.no(self.groups(("", (call,))))
        self.no(self.groups(("", (unnamed, call))))
        self.no(self.groups(("gone", (unnamed,))))
        self.no(self.groups(("a", (unnamed,))))
        self.no(self.groups(("x", (unnamed, call))))

    def test_order(self):
        self.no(self.groups(("b", (("row", 1),)), ("a", (("row", 1),))))
        self.no(self.groups(("a", (("row", 1),)), ("", (("new", 1),))))
        self.no(self.groups(("a", (("row", 1), ("give", 1)))))
        self.no(self.groups(("", (("new", 2), ("new", 1)))))
        self.no(self.groups(("a", (("row", 1), ("turn", 1))), ("a", (("row", 1),))))
        self.yes(self.groups(("a", (("row", 1),)), ("a", (("row", 1), ("turn", 1)))))
        self.yes(self.groups(("a", (("row", 1),)), ("b", (("give", 1),)), ("gone", (("give", 1),))))

    def test_the_limit(self):
        three = self.groups(("", (("new", 1), ("new", 1), ("new", 1))))
        self.yes(three)
        self.no(self.groups(("", (("new", 1), ("new", 1), ("new", 1), ("new", 1)))))
        self.no(self.groups(("", (("new", 1), ("new", 1), ("new", 1))), ("a", (("row", 1),))))
        self.no(three, DESK.varied(limit=2))
        self.no(self.groups(("", (("new", 1), ("new", 1)))), DESK.varied(limit=1))

    def test_two_that_hold(self):
        self.no(self.groups(("", (("hold", 1), ("hold", 1)))))
        self.no(self.groups(("", (("hold", 1), ("hold", 2)))))
        late = desk(late="look a > 0 / hold / do row a -> b", hold="hold / do new a")
        self.yes(((2, 0), (("a", (("late", 1),)), ("a", (("late", 2),)))), late)
        self.no(((2, 0), (("a", (("late", 2),)), ("a", (("late", 2),)))), late)
        self.no(((2, 0), (("", (("hold", 1),)), ("gone", (("late", 2),)))), late)
        self.yes(((2, 0), (("", (("hold", 1),)), ("gone", (("late", 1), ("late", 1))))), late)

    def test_more_groups_than_rows(self):
        group = ("a", (("row", 1),))
        self.yes(((2, 0), (group, group)))
        self.no(((1, 0), (group, group)))
        self.no(((0, 9), (group,)))
        self.no(((3, 0), (group, ("b", (("row", 1),)))))
        self.yes(((1, 0), (("a", (("row", 1), ("row", 1))),)))


class TestBadStandings(unittest.TestCase):

    def test_alone(self):
        for value in [*odd_values(), ((2, 0), (("a", (("row", 0),)),)), ((True, 0), ())]:
            with self.assertRaises(BadStanding) as caught:
                alone(DESK, value)
            self.assertIs(caught.exception.standing, value)

    def test_meeting(self):
        rest = ((1, 0), ())
        for value in odd_values():
            with self.assertRaises(BadStanding) as caught:
                meeting(DESK, value, ((1,), ()))
            self.assertIs(caught.exception.standing, value)
            with self.assertRaises(BadStanding) as caught:
                meeting(DESK, rest, value)
            self.assertIs(caught.exception.standing, value)
            with self.assertRaises(BadStanding) as caught:
                meeting(DESK, home=rest, other=value, only_going=True)
            self.assertIs(caught.exception.standing, value)

    def test_a_standing_beyond_the_rules_is_none_of_these(self):
        self.assertEqual(alone(MARK, ((7,), ())), [((7,), ())])
        self.assertEqual(alone(desk(rules=Rules(Exactly(1, "a")), begins=[Counts(a=1)], new="do new a"), ((99,), ())),
                         [((100,), ())])


if __name__ == "__main__":
    unittest.main()
