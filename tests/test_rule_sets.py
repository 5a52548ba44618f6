"""Sets of rules (8)."""

import inspect
import itertools
import unittest

from countsheld.counts import Counts
from countsheld.errors import BadRules, BadWord
from countsheld.rules import AtLeast, AtMost, Between, Exactly, Rules
from odd import odd_values


class TestMaking(unittest.TestCase):

    def what(self, wanted, *rules, loose=()):
        with self.assertRaises(BadRules) as caught:
            Rules(*rules, loose=loose)
        self.assertEqual(caught.exception.what, wanted, (rules, loose))
        with self.assertRaises(BadRules) as caught:
            Rules.of(list(rules), loose)
        self.assertEqual(caught.exception.what, wanted, (rules, loose))

    def test_attributes(self):
        one, two = Between(1, 3, "owner", "admin"), AtMost(1, "main")
        rules = Rules(one, two, loose=["plain", "gray"])
        self.assertEqual(rules.listed, (one, two))
        self.assertEqual(rules.kinds, ("admin", "main", "owner"))
        self.assertEqual(rules.loose, ("gray", "plain"))
        for value in (rules.listed, rules.kinds, rules.loose):
            self.assertIs(value.__class__, tuple)

    def test_of(self):
        one, two = AtMost(1, "b"), AtMost(1, "a")
        self.assertEqual(Rules.of([one, two]).listed, (one, two))
        self.assertEqual(Rules.of([one, two]).loose, ())
        self.assertEqual(Rules.of(rules=[one], loose=("d", "c")).loose, ("c", "d"))

    def test_arguments_are_copied_and_not_changed(self):
        listed, loose = [AtMost(1, "b")], ["d", "c"]
        rules = Rules.of(listed, loose)
        self.assertEqual((listed, loose), ([AtMost(1, "b")], ["d", "c"]))
        listed.append(AtMost(1, "e"))
        loose.clear()
        self.assertEqual((rules.listed, rules.kinds, rules.loose), ((AtMost(1, "b"),), ("b",), ("c", "d")))

    def test_one_to_four_rules(self):
        for many in range(1, 5):
            self.assertEqual(len(Rules(*[AtMost(1, "a")] * many).listed), many)
        self.what("rules")
        self.what("rules", *[AtMost(1, "a")] * 5)

    def test_no_rule(self):
        for value in odd_values() + [1, "at most 1 a"]:
            if not isinstance(value, AtMost):
                self.what("rules", value)
                self.what("rules", AtMost(1, "a"), value)

    def test_loose_in_a_list_or_a_tuple(self):
        for loose in ([], (), ["b"], ("b",), ["c", "b"], ("b", "c")):
            self.assertEqual(Rules(AtMost(1, "a"), loose=loose).loose, tuple(sorted(loose)))

    def test_wrong_loose(self):
        rule = AtMost(1, "a", "d")
        for loose in (["b", "b"], ("b", "b"), ["a"], ["b", "d"], ["b", "c", "e"], ("b", "c", "b"),
                      ["hold"], ["b", "gone"], ["B"], ["abcdefghi"]):
            self.what("loose", rule, loose=loose)
        for value in odd_values():
            self.what("loose", rule, loose=["b", value])
            self.what("loose", rule, loose=(value,))
            if value not in ([], (), ["main"], ("main",)):
                self.what("loose", rule, loose=value)
        for value in (0, 1, "b", "bc", {"b": 1}):
            self.what("loose", rule, loose=value)

    def test_four_ruled_kinds(self):
        self.assertEqual(Rules(AtMost(1, "b", "a", "c"), AtMost(1, "d", "a")).kinds, ("a", "b", "c", "d"))
        self.what("kinds", AtMost(0, "a", "b", "c"), AtMost(0, "d", "e"))
        self.what("kinds", *[AtMost(0, kind, kind + "x") for kind in "abcd"])

    def test_a_kind_in_no_rule_with_a_most(self):
        self.what("kinds", AtLeast(1, "a"))
        self.what("kinds", AtMost(1, "a"), AtLeast(0, "a", "b"))
        self.assertEqual(Rules(AtLeast(1, "a", "b"), AtMost(2, "a"), AtMost(3, "b")).kinds, ("a", "b"))

    def test_products(self):
        self.assertEqual(len(Rules(AtMost(9, "a"), AtMost(9, "b"), AtMost(9, "c"))), 1000)
        self.assertEqual(len(Rules(AtMost(9, "a"), AtMost(9, "b"), AtMost(9, "c"), AtMost(0, "d"))), 1000)
        self.assertEqual(len(Rules(*[AtMost(most, kind) for most, kind in zip((4, 4, 4, 7), "abcd")])), 1000)
        self.what("counts", *[AtMost(most, kind) for most, kind in zip((6, 7, 8, 1), "abcd")])
        self.what("counts", AtMost(9, "a"), AtMost(9, "b"), AtMost(9, "c"), AtMost(1, "d"))
        self.what("counts", AtMost(9, "a", "b", "c"), AtMost(9, "a", "b", "d"))
        self.assertEqual(Rules(AtMost(9, "a", "b", "c"), AtMost(0, "d", "a")).cap("a"), 0)

    def test_order_of_the_errors(self):
        far = [AtMost(9, "a", "b", "c"), AtMost(9, "d")]
        many = [AtMost(9, "a", "b", "c"), AtMost(9, "d", "e")]
        self.what("rules", *far, "no rule", loose=None)
        self.what("rules", loose=[1])
        self.what("rules", *far, *far, *many, loose=[1])
        self.what("loose", *far, loose=["a"])
        self.what("loose", *many, loose=["e"])
        self.what("loose", AtLeast(1, "a"), loose=["a"])
        self.what("kinds", *many)
        self.what("kinds", *far, AtLeast(1, "e"))
        self.what("kinds", AtMost(9, "a", "b", "c"), AtLeast(1, "d"), loose=["e"])
        self.what("counts", *far)


class TestSets(unittest.TestCase):

    def setUp(self):
        self.rules = Rules(Between(1, 3, "b", "a"), AtMost(2, "b"), AtLeast(0, "a"), loose=("c",))

    def test_cap(self):
        self.assertEqual((self.rules.cap("a"), self.rules.cap("b")), (3, 2))
        self.assertEqual(Rules(AtMost(2, "a"), Exactly(5, "a"), AtLeast(9, "a")).cap(kind="a"), 2)
        self.assertEqual(Rules(AtMost(5, "a"), AtMost(0, "a")).cap("a"), 0)

    def test_cap_of_no_ruled_kind(self):
        for value in odd_values() + ["c", "d", 1, ("a",), ["a"]]:
            with self.assertRaises(BadWord) as caught:
                self.rules.cap(value)
            self.assertIs(caught.exception.word, value)

    def test_within(self):
        for a, b in itertools.product(range(-2, 6), range(-2, 6)):
            wanted = a >= 0 and 0 <= b <= 2 and 1 <= a + b <= 3
            self.assertIs(Counts(a=a, b=b) in self.rules, wanted)
            self.assertIs(Counts(a=a, b=b, c=-7, d=50) in self.rules, wanted)

    def test_below_zero_where_each_rule_holds(self):
        rules = Rules(Exactly(1, "a", "b"))
        self.assertEqual(rules.broken(Counts(a=2, b=-1)), ())
        self.assertIs(Counts(a=2, b=-1) in rules, False)
        self.assertIs(Counts(a=1, z=-1) in rules, True)

    def test_any_value_within(self):
        for rules in (self.rules, Rules(AtMost(1, "main"))):
            for value in odd_values() + [1, (0,), [("a", 1)], "a", rules]:
                wanted = isinstance(value, Counts) and rules.broken(value) == ()
                self.assertIs(value in rules, wanted)

    def test_broken(self):
        rules = Rules(AtMost(1, "a"), AtLeast(1, "b", "a"), Exactly(2, "b"), AtMost(1, "a"))
        self.assertEqual(rules.broken(Counts()), (1, 2))
        self.assertEqual(rules.broken(Counts(a=2)), (0, 2, 3))
        self.assertEqual(rules.broken(Counts(a=1, b=2)), ())
        self.assertEqual(rules.broken(counts=Counts(a=-1, b=1)), (0, 1, 2, 3))

    def test_numbers(self):
        self.assertEqual(self.rules.numbers(Counts(b=5, a=-3, c=7, d=8)), (-3, 5))
        self.assertEqual(self.rules.numbers(counts=Counts()), (0, 0))
        self.assertIs(self.rules.numbers(Counts()).__class__, tuple)

    def test_each(self):
        self.assertTrue(inspect.isgenerator(self.rules.each()))
        wanted = [Counts(b=1), Counts(b=2), Counts(a=1), Counts(a=1, b=1), Counts(a=1, b=2),
                  Counts(a=2), Counts(a=2, b=1), Counts(a=3)]
        self.assertEqual(list(self.rules.each()), wanted)
        self.assertEqual(len(self.rules), 8)

    def test_each_and_len_are_those_within(self):
        sets = [
            Rules(AtMost(9, "c"), AtMost(3, "a", "b"), AtLeast(2, "b", "c")),
            Rules(Exactly(3, "a", "b", "c"), AtMost(1, "b", "d")),
            Rules(AtMost(4, "d"), AtMost(4, "b"), AtMost(4, "c"), AtMost(7, "a")),
            Rules(Between(2, 4, "a"), Exactly(0, "b"), AtLeast(3, "a", "b")),
            Rules(AtMost(0, "a")),
            Rules(AtMost(1, "a"), AtLeast(2, "a")),
        ]
        for rules in sets:
            ranges = [range(rules.cap(kind) + 1) for kind in rules.kinds]
            wanted = [numbers for numbers in itertools.product(*ranges)
                      if Counts.of(list(zip(rules.kinds, numbers))) in rules]
            self.assertEqual([rules.numbers(counts) for counts in rules.each()], wanted)
            self.assertEqual(len(rules), len(wanted))

    def test_each_yields_new_counts(self):
        for counts in self.rules.each():
            counts["a"] = 9
        self.assertEqual(next(self.rules.each()), Counts(b=1))
        self.assertEqual(len(list(self.rules.each())), 8)

    def test_two_at_once(self):
        pairs = list(zip(self.rules.each(), self.rules.each()))
        self.assertTrue(all(one == other and one is not other for one, other in pairs))

    def test_none_within(self):
        rules = Rules(AtMost(1, "a"), AtLeast(2, "a"))
        self.assertEqual((len(rules), list(rules.each())), (0, []))
        self.assertIs(Counts(a=1) in rules, False)

    def test_no_counts_are_changed(self):
        counts = Counts(a=1, c=4)
        self.assertIs(counts in self.rules, True)
        self.rules.broken(counts)
        self.rules.numbers(counts)
        self.assertEqual(counts, Counts(a=1, c=4))


class TestEqual(unittest.TestCase):

    def test_written_by_other_rules(self):
        self.assertEqual(Rules(Exactly(1, "a")), Rules(AtMost(1, "a"), AtLeast(1, "a")))
        self.assertEqual(Rules(AtMost(1, "a"), AtMost(2, "b")), Rules(AtMost(2, "b"), AtMost(1, "a")))
        self.assertEqual(Rules(AtMost(1, "a", "b")), Rules(AtMost(1, "b", "a"), AtMost(9, "a")))
        self.assertEqual(Rules(Exactly(0, "a", "b")), Rules(AtMost(0, "a"), AtMost(0, "b")))

    def test_loose_in_another_order(self):
        self.assertEqual(Rules(AtMost(1, "a"), loose=["b", "c"]), Rules(AtMost(1, "a"), loose=("c", "b")))

    def test_not_equal(self):
        sets = [Rules(AtMost(1, "a")), Rules(AtMost(2, "a")), Rules(AtMost(1, "b")), Rules(Exactly(1, "a")),
                Rules(AtMost(1, "a"), loose=["c"]), Rules(AtMost(1, "a"), loose=["b", "c"]),
                Rules(AtMost(1, "a"), AtMost(0, "b")), Rules(AtMost(0, "a")), Rules(AtMost(0, "a", "b"))]
        for one, other in itertools.product(sets, sets):
            self.assertIs(one == other, one is other)
            self.assertIs(one != other, one is not other)

    def test_no_counts_within(self):
        none = Rules(AtMost(1, "a"), AtLeast(2, "a"))
        self.assertEqual(none, Rules(AtMost(3, "a"), AtLeast(5, "a")))
        self.assertNotEqual(none, Rules(AtMost(1, "b"), AtLeast(2, "b")))
        self.assertNotEqual(none, Rules(AtMost(1, "a"), AtLeast(2, "a"), loose=["b"]))
        self.assertNotEqual(none, Rules(AtMost(1, "a"), AtLeast(2, "a"), AtMost(1, "b")))
        self.assertNotEqual(none, Rules(AtMost(0, "a")))

    def test_other_values(self):
        rules = Rules(AtMost(1, "a"))
        for value in [None, True, 1, "a", (), [], AtMost(1, "a"), Counts(), BadRules("kinds"), (AtMost(1, "a"),)]:
            self.assertIs(rules == value, False)
            self.assertIs(value == rules, False)
            self.assertIs(rules != value, True)
