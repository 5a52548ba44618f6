"""The operators of counts, also in place, and division (4, 5, 6)."""

import operator
import unittest

from countsheld.counts import Counts
from countsheld.errors import NoDivisor

LONG = 10 ** 30 - 1
WORDS = ("a", "b", "c", "self")
SAMPLES = [
    {}, {"a": 1}, {"a": -1}, {"b": 2}, {"a": 2, "b": -3}, {"a": -5, "self": 4}, {"b": 7, "c": -7},
    {"a": 3, "b": 3, "c": 3}, {"self": LONG}, {"self": -LONG, "a": LONG},
]
BY_WORD = {
    operator.add: lambda x, y: x + y,
    operator.sub: lambda x, y: x - y,
    operator.and_: min,
    operator.or_: max,
    operator.xor: lambda x, y: abs(x - y),
}
IN_PLACE = {
    operator.iadd: operator.add, operator.isub: operator.sub,
    operator.iand: operator.and_, operator.ior: operator.or_,
}


def made(sample):
    return Counts.of(list(sample.items()))


def listed(counts):
    return [counts[word] for word in WORDS]


class TestOperators(unittest.TestCase):

    def test_word_by_word(self):
        for sign, by_word in BY_WORD.items():
            for one in SAMPLES:
                for other in SAMPLES:
                    wanted = [by_word(one.get(word, 0), other.get(word, 0)) for word in WORDS]
                    result = sign(made(one), made(other))
                    self.assertEqual(listed(result), wanted)
                    self.assertEqual(len(result), len([n for n in wanted if n]))

    def test_examples(self):
        a, b = Counts(a=1, b=5), Counts(b=2, c=-3)
        self.assertEqual(a + b, Counts(a=1, b=7, c=-3))
        self.assertEqual(a - b, Counts(a=1, b=3, c=3))
        self.assertEqual(a & b, Counts(b=2, c=-3))
        self.assertEqual(a | b, Counts(a=1, b=5))
        self.assertEqual(a ^ b, Counts(a=1, b=3, c=3))
        self.assertEqual(-b, Counts(b=-2, c=3))
        self.assertEqual(abs(b), Counts(b=2, c=3))
        self.assertEqual(-2 * b, Counts(b=-4, c=6))
        self.assertEqual(b * 0, Counts())

    def test_one_object_on_both_sides(self):
        a = Counts(a=2, b=-3)
        self.assertEqual(a + a, Counts(a=4, b=-6))
        self.assertEqual(a - a, Counts())
        self.assertEqual(a & a, a)
        self.assertEqual(a | a, a)
        self.assertEqual(a ^ a, Counts())
        self.assertEqual(a // Counts(a=1) * Counts(a=1), Counts(a=2))
        self.assertEqual(a, Counts(a=2, b=-3))

    def test_arguments_are_not_changed(self):
        for sign in BY_WORD:
            a, b = Counts(a=1, b=2), Counts(b=-3, c=4)
            sign(a, b)["a"] = 9
            self.assertEqual((a, b), (Counts(a=1, b=2), Counts(b=-3, c=4)))

    def test_results_are_new_where_nothing_changes(self):
        a = Counts(a=1, b=2)
        same = [a + Counts(), Counts() + a, a - Counts(), a & a, a | a, a ^ Counts(), abs(a),
                a * 1, 1 * a, -(-a), a % Counts(a=9, b=9)]
        for result in same:
            self.assertEqual(result, Counts(a=1, b=2))
            self.assertIsNot(result, a)
            result["a"] = 9
            self.assertEqual(a, Counts(a=1, b=2))

    def test_factors(self):
        for factor in (-3, 0, 1, 2, LONG, LONG * LONG):
            for sample in SAMPLES:
                wanted = [factor * sample.get(word, 0) for word in WORDS]
                self.assertEqual(listed(made(sample) * factor), wanted)
                self.assertEqual(listed(factor * made(sample)), wanted)

    def test_long_results(self):
        counts = Counts(a=7)
        for _ in range(33):
            counts = counts * LONG
        self.assertEqual(counts["a"], 7 * LONG ** 33)
        self.assertEqual((counts + counts)["a"], 14 * LONG ** 33)
        self.assertEqual(Counts(b=2) * counts["a"], Counts(b=14) * LONG ** 33)
        self.assertEqual(counts.copy().pairs(), [("a", 7 * LONG ** 33)])
        self.assertEqual(counts // counts, 1)

    def test_a_truth_value_is_no_factor(self):
        with self.assertRaises(TypeError):
            Counts(a=1) * True
        with self.assertRaises(TypeError):
            True * Counts(a=1)


class TestOrder(unittest.TestCase):

    def test_word_by_word(self):
        for one in SAMPLES:
            for other in SAMPLES:
                a, b = made(one), made(other)
                pairs = [(one.get(word, 0), other.get(word, 0)) for word in WORDS]
                at_most = all(x <= y for x, y in pairs)
                at_least = all(x >= y for x, y in pairs)
                self.assertIs(a <= b, at_most)
                self.assertIs(a >= b, at_least)
                self.assertIs(a < b, at_most and one != other)
                self.assertIs(a > b, at_least and one != other)

    def test_neither(self):
        a, b = Counts(a=1), Counts(b=1)
        self.assertFalse(a <= b or b <= a or a < b or b < a or a >= b or a > b)

    def test_a_word_that_only_one_has(self):
        self.assertTrue(Counts(a=-1) < Counts())
        self.assertTrue(Counts() > Counts(a=-1))
        self.assertTrue(Counts() < Counts(a=1))
        self.assertTrue(Counts(a=1) >= Counts())
        self.assertFalse(Counts() <= Counts(a=-1))

    def test_one_object_on_both_sides(self):
        a = Counts(a=1)
        self.assertTrue(a <= a and a >= a)
        self.assertFalse(a < a or a > a)


class TestInPlace(unittest.TestCase):

    def test_with_a_second_name(self):
        for change, sign in IN_PLACE.items():
            for one in SAMPLES:
                for other in SAMPLES:
                    a, b = made(one), made(other)
                    second = a
                    result = change(a, b)
                    self.assertIs(result, second)
                    self.assertEqual(second, sign(made(one), made(other)))
                    self.assertEqual(b, made(other))

    def test_statements_keep_the_object(self):
        a = second = Counts(a=1, b=-1)
        a += Counts(a=2, c=1)
        self.assertEqual(second, Counts(a=3, b=-1, c=1))
        a -= Counts(c=1)
        self.assertEqual(second, Counts(a=3, b=-1))
        a |= Counts(d=4)
        self.assertEqual(second, Counts(a=3, d=4))
        a &= Counts(a=2, d=9)
        self.assertEqual(second, Counts(a=2, d=4))
        a *= -2
        self.assertEqual(second, Counts(a=-4, d=-8))
        self.assertIs(a, second)

    def test_with_the_object_itself(self):
        for change, sign in IN_PLACE.items():
            for one in SAMPLES:
                a = made(one)
                self.assertIs(change(a, a), a)
                self.assertEqual(a, sign(made(one), made(one)))

    def test_factors(self):
        for factor in (-1, 0, 1, 5, LONG, LONG * LONG):
            for one in SAMPLES:
                a = second = made(one)
                a *= factor
                self.assertIs(a, second)
                self.assertEqual(second, made(one) * factor)

    def test_the_other_side_stays_apart(self):
        a, b = Counts(), Counts(a=1)
        a += b
        a["a"] = 5
        b["b"] = 6
        self.assertEqual((a, b), (Counts(a=5), Counts(a=1, b=6)))

    def test_a_wrong_side_changes_nothing(self):
        for change in IN_PLACE:
            for value in (1, True, None, "a", [("a", 1)]):
                a = Counts(a=1)
                with self.assertRaises(TypeError):
                    change(a, value)
                self.assertEqual(a, Counts(a=1))
        a = Counts(a=1)
        with self.assertRaises(TypeError):
            a *= True
        self.assertEqual(a, Counts(a=1))


class TestDivision(unittest.TestCase):

    def test_examples(self):
        self.assertEqual(Counts(main=5, spare=3) // Counts(main=2), 2)
        self.assertEqual(Counts(main=5, spare=3) % Counts(main=2), Counts(main=1, spare=3))
        self.assertEqual(Counts(main=-1) // Counts(main=2), -1)
        self.assertEqual(Counts(main=-1) % Counts(main=2), Counts(main=1))

    def test_greatest(self):
        divisors = [{"a": 1}, {"a": 2}, {"a": 2, "b": 3}, {"b": 1, "self": 4}, {"a": LONG}]
        for one in SAMPLES:
            for other in divisors:
                a, b = made(one), made(other)
                n = a // b
                self.assertTrue(all((n * b)[word] <= a[word] for word in other))
                self.assertFalse(all(((n + 1) * b)[word] <= a[word] for word in other))
                self.assertEqual(a % b, a - n * b)
                self.assertEqual((a, b), (made(one), made(other)))

    def test_below_zero(self):
        self.assertEqual(Counts(a=-4) // Counts(a=2), -2)
        self.assertEqual(Counts(a=-5) // Counts(a=2), -3)
        self.assertEqual(Counts(a=9, b=-1) // Counts(a=1, b=5), -1)
        self.assertEqual(Counts(a=9, b=-1) % Counts(a=1, b=5), Counts(a=10, b=4))

    def test_words_that_only_one_has(self):
        self.assertEqual(Counts(a=9, b=-7) // Counts(a=2), 4)
        self.assertEqual(Counts(a=9, b=-7) % Counts(a=2), Counts(a=1, b=-7))
        self.assertEqual(Counts(a=9) // Counts(a=2, b=1), 0)
        self.assertEqual(Counts() // Counts(b=1), 0)
        self.assertEqual(Counts() % Counts(b=1), Counts())

    def test_one_object_on_both_sides(self):
        a = Counts(a=3, b=1)
        self.assertEqual((a // a, a % a), (1, Counts()))

    def test_no_divisor(self):
        for sign in (operator.floordiv, operator.mod):
            for a in (Counts(), Counts(a=1)):
                with self.assertRaises(NoDivisor) as caught:
                    sign(a, Counts(b=0))
                self.assertIs(caught.exception.word, None)

    def test_first_word_below_zero(self):
        for sign in (operator.floordiv, operator.mod):
            for divisor, word in ((Counts(c=-1, b=-1, a=1), "b"), (Counts(ab=-1, a=-1), "a"),
                                  (Counts(z=-1), "z")):
                with self.assertRaises(NoDivisor) as caught:
                    sign(Counts(z=1), divisor)
                self.assertEqual(caught.exception.word, word)

    def test_rest_under_a_second_name(self):
        a = second = Counts(main=5)
        a %= Counts(main=2)
        self.assertEqual((a, second), (Counts(main=1), Counts(main=5)))
