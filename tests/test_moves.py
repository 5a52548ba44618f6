"""What `alone` and `meeting` give, sort by sort (23)."""

import unittest

from countsheld.counts import Counts
from countsheld.rules import AtLeast, AtMost, Exactly, Rules
from countsheld.standings import alone, is_standing, meeting
from making import desk

RULES = Rules(AtMost(9, "a"), AtMost(9, "b"), loose=["x", "y"])


def used(limit=3, store=(), rules=RULES, begins=(Counts(),), **doors):
    return desk(rules=rules, begins=begins, limit=limit, store=store, **doors)


def rest(*numbers):
    return numbers, ()


def going(numbers, *groups):
    """Return a standing; each group is a label and (door, index) pairs behind it."""
    return numbers, tuple((label, tuple(calls)) for label, *calls in groups)


class TestAlone(unittest.TestCase):

    def next(self, standing, *wanted, only_going=False, **doors):
        """One door `d` at an owner; the wanted standings are all that come next."""
        made = used(**doors)
        self.assertTrue(is_standing(made, standing))
        found = alone(made, standing, only_going=only_going)
        self.assertIs(found.__class__, list)
        self.assertEqual(len(found), len(set(found)))
        self.assertEqual(set(found), set(wanted))

    def test_the_example(self):
        made = used(rules=Rules(AtMost(1, "main"), loose=["plain"]), limit=2, mark="look main = 0 / do row plain -> main")
        one = ("plain", (("mark", 1),))
        self.assertEqual(alone(made, ((0,), (one, one))), [((1,), (one,))])
        self.assertEqual(alone(made, ((0,), (("plain", (("mark", 1), ("mark", 1))),))), [((1,), (("main", (("mark", 1),)),))])
        standing = ((1,), (("main", (("mark", 1),)),))
        self.assertEqual(sorted(alone(standing=standing, desk=made)), [((1,), ()), standing])

    def test_a_call_that_begins(self):
        two = ("d", 1)
        self.next(rest(1, 0), going((1, 0), ("a", two)), going((1, 0), ("x", two)), going((1, 0), ("y", two)),
                  d="look a = 1 / do row a -> b")
        self.next(rest(0, 0), going((0, 0), ("x", two)), going((0, 0), ("y", two)), d="look a = 0 / do row a -> b")
        self.next(rest(1, 0), rest(1, 0), d="look a = 0 / do row a -> b")
        self.next(rest(1, 2), going((1, 2), ("", two)), d="look a = 1 and b = 2 / do new a")
        # A row that another call names, and one that none does.
        ruled = Rules(AtMost(9, "a"), AtMost(9, "b"))
        self.next(going((2, 0), ("a", two)), going((2, 0), ("a", two, two)), going((2, 0), ("a", two), ("a", two)),
                  rest(1, 0), d="look row a / do row a -> gone", rules=ruled)
        self.next(going((1, 0), ("a", two)), going((1, 0), ("a", two, two)), rest(0, 0),
                  d="look row a / do row a -> gone", rules=ruled)

    def test_the_limit(self):
        two = ("d", 1)
        self.next(going((0, 0), ("", two)), going((1, 0)), d="look a = 0 / do new a", limit=1)
        self.next(going((0, 0), ("", two)), going((1, 0)), going((0, 0), ("", two, two)), d="look a = 0 / do new a", limit=2)
        self.next(going((0, 0), ("", two, two, two)), going((1, 0), ("", two, two)), d="look a = 0 / do new a")
        # No call begins then, not even one that ends at once or is refused.
        self.next(going((0, 0), ("", two)), going((0, 1)), d="look a = 0 / do new b", e="do new a", f="look a = 9 / do new a",
                  limit=1)

    def test_only_going(self):
        two = ("d", 1)
        self.next(rest(0, 0), d="do new a", only_going=True)
        self.next(going((0, 0), ("", two)), rest(1, 0), d="look a = 0 / do new a", only_going=True)

    def test_lines_behind_the_first(self):
        self.next(going((0, 0), ("", ("d", 1))), going((1, 0), ("", ("d", 2))), d="look a = 0 / do new a / look a = 1",
                  only_going=True)
        self.next(going((1, 0), ("", ("d", 2))), rest(1, 0), d="look a = 0 / do new a / look a = 1", only_going=True)
        self.next(going((2, 0), ("", ("d", 2), ("d", 2))), going((2, 0), ("", ("d", 2))),
                  d="look a = 0 / do new a / look a = 1", only_going=True)

    def test_tests(self):
        for test, holds in (("a = 2", True), ("a + b >= 4", False), ("a + b <= 3", True), ("b != 1", False), ("a > 1", True),
                            ("b < 1", False), ("a = 2 and b = 1", True), ("a = 2 and b = 2", False)):
            behind = rest(3, 1) if holds else rest(2, 1)
            self.next(rest(2, 1), behind, d=f"do new a if {test}")
            self.next(rest(2, 1), going((2, 1), ("", ("d", 1))) if holds else rest(2, 1), d=f"look {test} / do new a")
        for kinds, label, holds in (("a or b", "a", True), ("b or x", "a", False), ("x", "x", True), ("x or y", "y", True),
                                    ("a or b or x or y", "gone", False)):
            door = f"look a >= 0 / do new b if row {kinds} / do row a -> a"
            behind = going((1, 1), (label, ("d", 2))) if holds else rest(1, 0)
            self.next(going((1, 0), (label, ("d", 1))), behind, d=door, only_going=True)

    def test_parts_on_the_named_row(self):
        for kind, numbers in (("a", (0, 0)), ("b", (1, -1)), ("x", (1, 0)), ("gone", None)):
            door = "look a >= 0 / do row a or b or x -> gone / look a >= 0"
            start = going((1, 1), (kind, ("d", 1)))
            wanted = {"a": going((0, 1), ("gone", ("d", 2))), "b": going((1, 0), ("gone", ("d", 2))),
                      "x": going((1, 1), ("gone", ("d", 2))), "gone": rest(1, 1)}[kind]
            self.next(start, wanted, d=door, only_going=True)
        self.next(going((1, 0), ("a", ("d", 1))), going((0, 0), ("y", ("d", 2))), d="look a = 1 / do row a -> y / do row y -> a",
                  only_going=True)
        self.next(going((0, 0), ("y", ("d", 2))), rest(1, 0), d="look a = 1 / do row a -> y / do row y -> a", only_going=True)
        # All calls of the row see it.
        self.next(going((1, 0), ("a", ("d", 1), ("d", 1))), going((0, 1), ("b", ("d", 1))), d="look a = 1 / do row a -> b",
                  only_going=True)

    def test_rows_that_are_gone_are_one_group(self):
        first, second = "look a >= 0 / do row a -> gone", "look a >= 0 / do row b -> a"
        self.next(going((1, 0), ("a", ("d", 1), ("e", 1)), ("gone", ("e", 1))),
                  going((0, 0), ("gone", ("e", 1), ("e", 1))),
                  going((1, 0), ("a", ("d", 1)), ("gone", ("e", 1))),
                  going((1, 0), ("a", ("d", 1), ("e", 1))), d=first, e=second, only_going=True)

    def test_one(self):
        self.next(rest(2, 0), rest(1, 1), d="do one a -> b")
        self.next(rest(0, 0), rest(0, 0), d="do one a -> b")
        self.next(rest(2, 0), rest(1, 0), d="do one a -> gone")
        self.next(rest(2, 0), rest(1, 0), d="do one a -> x")
        self.next(rest(1, 0), rest(1, 0), d="do one a -> gone then one a -> gone")
        # Never the row that its own call names.
        self.next(going((1, 0), ("a", ("d", 1))), rest(1, 0), d="look row a / do one a -> b", only_going=True)
        self.next(going((2, 0), ("a", ("d", 1))), rest(1, 1), d="look row a / do one a -> b", only_going=True)

    def test_one_with_the_named_row_among_those_of_the_kind(self):
        door, other = "look row a / do one a -> b / look a >= 0", "look a >= 0 / do row b -> gone"
        both = going((2, 0), ("a", ("d", 1)), ("a", ("e", 1)))
        self.next(both, going((1, 1), ("a", ("d", 2)), ("b", ("e", 1))), going((2, 0), ("a", ("d", 1))),
                  d=door, e=other, only_going=True)
        more = going((3, 0), ("a", ("d", 1)), ("a", ("e", 1)))
        self.next(more, going((2, 1), ("a", ("d", 2)), ("b", ("e", 1))), going((2, 1), ("a", ("d", 2)), ("a", ("e", 1))),
                  going((3, 0), ("a", ("d", 1))), d=door, e=other, only_going=True)

    def test_one_loose(self):
        # A row may have come, or left.
        self.next(rest(0, 0), rest(1, 0), rest(0, 0), d="do one x -> a")
        self.next(rest(0, 0), rest(0, 0), d="do one x -> gone")
        door, other = "look a = 0 / do one x -> a / look a > 0", "look a >= 0 / do row x -> b"
        # The own row is passed over, and others may have left.
        self.next(going((0, 0), ("x", ("e", 1))), going((0, 1)), d=door, e=other, only_going=True)
        self.next(going((0, 0), ("", ("d", 1)), ("x", ("e", 1))), going((1, 0), ("", ("d", 2)), ("x", ("e", 1))),
                  going((1, 0), ("", ("d", 2)), ("a", ("e", 1))), going((0, 1), ("", ("d", 1))),
                  d=door, e=other, only_going=True)
        named = "look row x / do one x -> a / do row x -> gone"
        self.next(going((0, 0), ("x", ("d", 1))), going((1, 0), ("x", ("d", 2))), rest(0, 0), d=named, only_going=True)
        self.next(going((0, 0), ("x", ("d", 1), ("d", 1))), going((1, 0), ("x", ("d", 1), ("d", 2))),
                  going((0, 0), ("x", ("d", 1))), d=named, only_going=True)
        self.next(going((0, 0), ("x", ("d", 1)), ("y", ("d", 2))), going((1, 0), ("x", ("d", 2)), ("y", ("d", 2))),
                  going((0, 0), ("y", ("d", 2))), going((0, 0), ("x", ("d", 1))), d=named, only_going=True)

    def test_all(self):
        self.next(rest(3, 1), rest(0, 4), d="do all a -> b")
        self.next(rest(3, 1), rest(3, 1), d="do all a -> a")
        self.next(rest(0, 1), rest(0, 1), d="do all a -> gone")
        self.next(rest(3, 1), rest(1, 1), d="do all a -> x then new a")
        door, other = "look a >= 0 / do all a -> b then row a -> gone", "look a >= 0 / do row b or y -> gone"
        self.next(going((3, 0), ("a", ("d", 1)), ("a", ("e", 1))), going((0, 2), ("b", ("e", 1))), going((3, 0), ("a", ("d", 1))),
                  d=door, e=other, only_going=True)
        self.next(going((1, 0), ("a", ("e", 1))), going((0, 0), ("y", ("e", 1))), going((0, 0), ("gone", ("e", 1))), rest(1, 0),
                  going((1, 0), ("a", ("e", 1), ("e", 1))), going((1, 0), ("a", ("e", 1)), ("x", ("e", 1))),
                  going((1, 0), ("a", ("e", 1)), ("y", ("e", 1))),
                  d="do all a -> y", f="do all a -> gone", e=other)

    def test_parts_see_what_the_parts_before_them_left(self):
        self.next(rest(0, 0), rest(0, 1), d="do new a then one a -> b")
        self.next(rest(0, 0), rest(0, 2), d="do new a then new a then all a -> b")
        self.next(rest(2, 0), rest(2, 0), d="do all a -> b then one a -> gone")
        # Tests are evaluated ahead of the parts.
        self.next(rest(0, 0), rest(2, 0), d="do new a then new a if a = 0")
        self.next(rest(0, 0), rest(0, 0), d="do new a if a = 1")

    def test_hold(self):
        door = "hold / do new a"
        self.next(rest(0, 0), going((0, 0), ("", ("d", 1))), d=door)
        self.next(going((0, 0), ("", ("d", 1))), rest(1, 0), d=door)
        # Lines of calls that do not hold go on.
        self.next(going((0, 0), ("", ("d", 1))), rest(1, 0), going((0, 1), ("", ("d", 1))), d=door, e="do new b")
        late = "look a >= 0 / hold / do new b"
        self.next(going((0, 0), ("", ("d", 1), ("e", 1))), going((1, 0), ("", ("e", 1))), d=door, e=late, only_going=True)
        self.next(going((0, 0), ("", ("e", 1), ("e", 2))), going((0, 1), ("", ("e", 1))), e=late, only_going=True)
        self.next(going((0, 0), ("", ("e", 1), ("e", 1))), going((0, 0), ("", ("e", 1), ("e", 2))), e=late, only_going=True)
        self.next(rest(0, 0), going((1, 0), ("", ("d", 1))), d="do new a / hold")
        self.next(going((1, 0), ("", ("d", 1))), rest(1, 0), d="do new a / hold", limit=1)

    def test_the_store(self):
        rules = Rules(AtMost(1, "a"), AtLeast(1, "a", "b"), AtMost(2, "b"), loose=["x"])
        begins = [Counts(a=1)]
        self.next(rest(1, 0), rest(1, 0), d="do new a", rules=rules, begins=begins, store=[0])
        self.next(rest(1, 0), rest(2, 0), d="do new a", rules=rules, begins=begins, store=[1])
        self.next(rest(1, 0), rest(1, 0), d="do one a -> gone", rules=rules, begins=begins, store=[1, 0])
        self.next(rest(1, 0), rest(1, 1), d="do new a then one a -> b", rules=rules, begins=begins, store=[1, 0])
        # It looks behind the parts alone, and only there.
        self.next(rest(2, 0), going((2, 0), ("", ("d", 1))), d="look a = 2 / do new b", rules=rules, begins=begins, store=[0])
        self.next(rest(2, 0), going((2, 0), ("", ("d", 1))), d="hold / do new b", rules=rules, begins=begins, store=[0])
        self.next(rest(2, 0), rest(2, 0), d="do new b", rules=rules, begins=begins, store=[0])

    def test_numbers_beyond_the_rules(self):
        self.next(rest(99, 0), rest(101, 0), d="do new a then new a")
        self.next(rest(7, 99), rest(8, 99), d="do new a", rules=Rules(Exactly(0, "a", "b")))


class TestMeeting(unittest.TestCase):

    def next(self, home, other, *wanted, only_going=False, **doors):
        made = used(**doors)
        self.assertTrue(is_standing(made, home) and is_standing(made, other))
        found = meeting(made, home, other, only_going=only_going)
        self.assertIs(found.__class__, list)
        self.assertEqual(len(found), len(set(found)))
        self.assertEqual(set(found), set(wanted))
        self.assertEqual(set(meeting(other=other, only_going=only_going, home=home, desk=made)), set(wanted))

    def test_give(self):
        self.next(rest(2, 0), rest(0, 1), (rest(1, 0), rest(0, 2)), (rest(2, 0), rest(0, 1)), d="do give a -> b")
        self.next(rest(1, 0), rest(9, 0), (rest(0, 0), rest(9, 0)), (rest(1, 0), rest(9, 0)), d="do give a -> x")
        self.next(rest(1, 1), rest(0, 0), (rest(0, 1), rest(1, 0)), (rest(1, 0), rest(1, 0)), (rest(1, 1), rest(1, 0)),
                  (rest(1, 1), rest(0, 0)), d="do give a or b or x -> a")
        self.next(going((1, 0), ("a", ("d", 1), ("d", 1))), rest(0, 0), (going((0, 0), ("gone", ("d", 1))), rest(0, 1)),
                  d="look a = 1 / do give a -> b", only_going=True)
        self.next(going((0, 0), ("gone", ("d", 1))), rest(0, 0), (rest(0, 0), rest(0, 0)), d="look a = 1 / do give a -> b",
                  only_going=True)

    def test_take(self):
        self.next(rest(0, 0), rest(2, 0), (rest(0, 1), rest(1, 0)), d="do take a -> b")
        self.next(rest(0, 0), rest(0, 2), (rest(0, 0), rest(0, 2)), d="do take a -> b")
        self.next(rest(0, 0), rest(0, 0), (rest(1, 0), rest(0, 0)), (rest(0, 0), rest(0, 0)), d="do take x -> a")
        wait = "look a >= 0 / do row a or x -> b"
        self.next(rest(0, 0), going((1, 0), ("a", ("e", 1))), (rest(0, 1), going((0, 0), ("gone", ("e", 1)))),
                  d="do take a -> b", e=wait)
        self.next(rest(0, 0), going((2, 0), ("a", ("e", 1)), ("gone", ("e", 1))),
                  (rest(0, 1), going((1, 0), ("gone", ("e", 1), ("e", 1)))),
                  (rest(0, 1), going((1, 0), ("a", ("e", 1)), ("gone", ("e", 1)))), d="do take a -> b", e=wait)
        # A row of a loose kind that a call names cannot have left.
        self.next(rest(0, 0), going((0, 0), ("x", ("e", 1))), (rest(1, 0), going((0, 0), ("x", ("e", 1)))),
                  (rest(1, 0), going((0, 0), ("gone", ("e", 1)))), d="do take x -> a", e=wait)

    def test_take_from_groups_that_differ(self):
        wait = "look a >= 0 / look a >= 0 / do row a -> b"
        self.next(rest(0, 0), going((2, 0), ("a", ("e", 1)), ("a", ("e", 2))),
                  (rest(0, 0), going((1, 0), ("a", ("e", 1)), ("gone", ("e", 2)))),
                  (rest(0, 0), going((1, 0), ("a", ("e", 2)), ("gone", ("e", 1)))), d="do take a -> x", e=wait)

    def test_join(self):
        self.next(rest(1, 2), rest(3, 0), (rest(4, 2), None), d="do join")
        self.next(rest(99, 0), rest(99, 1), (rest(198, 1), None), d="do join")
        self.next(rest(1, 2), going((3, 0), ("x", ("e", 1))), (rest(4, 2), None), d="do join", e="look a > 0 / do row x -> a")
        self.next(rest(1, 2), rest(3, 0), (rest(1, 2), rest(3, 0)), d="do join if other a < 3")
        self.next(rest(1, 2), rest(3, 0), (rest(0, 6), None), d="do join then all a -> b")
        self.next(going((0, 0), ("", ("d", 1))), rest(1, 0), (going((1, 0), ("", ("d", 2))), None),
                  d="look a = 0 / do join / look a = 0", only_going=True)

    def test_tests_of_the_other(self):
        for test, holds in (("other a = 1", True), ("other a = 2", False), ("a = 2", True), ("other a + b > 1", False),
                            ("other b = 0 and a + b = 2", True)):
            wanted = (rest(1, 0), rest(1, 1)) if holds else (rest(2, 0), rest(1, 0))
            self.next(rest(2, 0), rest(1, 0), wanted, (rest(2, 0), rest(1, 0)), d=f"do give a -> b if {test}")

    def test_only_going_and_other_lines(self):
        self.next(rest(1, 0), rest(1, 0), d="do give a -> b", only_going=True)
        self.next(rest(1, 0), rest(1, 0), d="do new a / do give a -> b")
        self.next(going((1, 0), ("a", ("d", 1))), rest(1, 0), d="do give a -> b / do new a", only_going=True)
        # Other calls begin beside it.
        self.next(going((1, 0), ("a", ("d", 1))), rest(1, 0), (going((1, 0), ("a", ("d", 1))), rest(1, 0)),
                  (going((0, 0), ("gone", ("d", 1), ("d", 1))), rest(1, 1)), d="do give a -> b / do new a")

    def test_the_limit(self):
        call = ("e", 1)
        self.next(going((1, 0), ("", call)), rest(0, 0), d="do take b -> a", e="look a = 1 / do new a", limit=1)
        self.next(going((1, 0), ("", call)), rest(0, 0), (going((1, 0), ("", call)), rest(0, 0)), d="do take b -> a",
                  e="look a = 1 / do new a", limit=2)

    def test_equal_standings_are_two_owners(self):
        one = going((2, 0), ("a", ("d", 1)))
        self.next(one, one, (rest(1, 0), going((3, 0), ("a", ("d", 1)))), d="look row a / do give a -> a", only_going=True)
        self.next(rest(1, 0), rest(1, 0), (rest(2, 0), rest(0, 0)), d="do take a -> a")

    def test_hold(self):
        door, held = "hold / do take a -> b", going((1, 0), ("", ("d", 1)))
        self.next(held, rest(1, 0), (rest(1, 1), rest(0, 0)), d=door)
        self.next(held, held, d=door)
        # A call that does not hold takes nevertheless, and so it does from one that does not hold.
        late = "look a >= 0 / do take a -> b / hold"
        self.next(going((0, 0), ("", ("e", 1))), held, (going((0, 1), ("", ("e", 2))), going((0, 0), ("", ("d", 1)))),
                  d=door, e=late, only_going=True)
        self.next(held, going((1, 0), ("", ("e", 1))), (rest(1, 1), going((0, 0), ("", ("e", 1)))), d=door, e=late,
                  only_going=True)
        self.next(held, going((1, 0), ("", ("e", 2))), (rest(1, 1), going((0, 0), ("", ("e", 2)))), d=door, e=late,
                  only_going=True)
        # It does not matter that the home is held by another call.
        self.next(going((0, 0), ("", ("d", 1), ("e", 1))), rest(1, 0), (going((0, 1), ("", ("e", 1))), rest(0, 0)),
                  (going((0, 1), ("", ("d", 1), ("e", 2))), rest(0, 0)), d=door, e=late, only_going=True)

    def test_the_store_for_both_owners(self):
        rules = Rules(AtMost(1, "a"), AtLeast(1, "a", "b"), AtMost(2, "b"))
        named = {"rules": rules, "begins": [Counts(a=1)]}
        both = (rest(1, 0), rest(1, 0))
        self.next(*both, both, d="do take a -> a", store=[0], **named)
        self.next(*both, both, d="do take a -> b", store=[1], **named)
        self.next(*both, (rest(1, 1), rest(0, 0)), d="do take a -> b", store=[0], **named)
        self.next(*both, both, d="do give a -> b", store=[1], **named)
        self.next(*both, (rest(0, 0), rest(1, 1)), d="do give a -> b", store=[2], **named)
        # An owner that exists no longer is not looked at.
        self.next(*both, (rest(0, 2), None), d="do join then all a -> b", store=[0, 1, 2], **named)
        self.next(rest(2, 0), rest(1, 0), (rest(2, 0), rest(1, 0)), d="do take a -> b", store=[0], **named)


if __name__ == "__main__":
    unittest.main()
