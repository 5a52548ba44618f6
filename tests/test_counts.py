"""Counts: how they are made, read, changed and shown (2, 4, 6)."""

import unittest

from countsheld.counts import Counts
from countsheld.errors import BadCounts, BadNumber, BadWord
from countsheld.rules import AtMost, Rules
from odd import nested, odd_numbers, odd_values

LONG = 10 ** 30 - 1


class TestMaking(unittest.TestCase):

    def test_integers_by_words(self):
        counts = Counts(spare=-2, main=1)
        self.assertEqual((counts["main"], counts["spare"], counts["other"]), (1, -2, 0))

    def test_none(self):
        self.assertEqual(Counts().pairs(), [])

    def test_zeros_are_not_shown(self):
        counts = Counts(a=0, b=1, c=0)
        self.assertEqual(counts.pairs(), [("b", 1)])
        self.assertEqual(counts.words(), ["b"])
        self.assertEqual(len(counts), 1)
        self.assertNotIn("a", counts)
        self.assertEqual(counts, Counts(b=1))

    def test_thirty_digits(self):
        counts = Counts(a=LONG, b=-LONG)
        self.assertEqual(counts.pairs(), [("a", LONG), ("b", -LONG)])

    def test_words_of_python(self):
        for word in ("cls", "numbers", "word", "open", "input", "class", "other", "at"):
            self.assertEqual(Counts(**{word: 3}).pairs(), [(word, 3)])
        for word in ("self", "cls", "pairs", "numbers"):
            self.assertEqual(Counts.of([(word, 3)]).pairs(), [(word, 3)])
            self.assertEqual(Counts.of([(word, 3)])[word], 3)

    def test_longest_and_shortest_words(self):
        self.assertEqual(Counts(a=1, abcdefgh=2).pairs(), [("a", 1), ("abcdefgh", 2)])

    def test_bad_words(self):
        for word in ("", "A", "Main", "abcdefghi", "a1", "a_b", "a b", "a\n", " ", "~"):
            with self.assertRaises(BadWord) as caught:
                Counts(**{word: 1})
            self.assertEqual(caught.exception.word, word)

    def test_letters_of_other_scripts_are_none(self):
        for word in ("\u00e4", "\u0430", "\uff41", "\u00df"):
            with self.assertRaises(BadWord):
                Counts(**{word: 1})

    def test_bad_numbers(self):
        for number in odd_numbers():
            with self.assertRaises(BadNumber) as caught:
                Counts(main=number)
            self.assertIs(caught.exception.number, number)

    def test_first_wrong_argument(self):
        with self.assertRaises(BadNumber) as caught:
            Counts(a=1, b=True, C=1)
        self.assertIs(caught.exception.number, True)
        with self.assertRaises(BadWord) as caught:
            Counts(a=1, B=1, c=True)
        self.assertEqual(caught.exception.word, "B")

    def test_word_before_integer(self):
        with self.assertRaises(BadWord):
            Counts(B=False)


class TestOf(unittest.TestCase):

    def test_list_and_tuple(self):
        pairs = [("main", 1), ("spare", -2)]
        self.assertEqual(Counts.of(pairs), Counts(main=1, spare=-2))
        self.assertEqual(Counts.of(tuple(pairs)), Counts(main=1, spare=-2))
        self.assertEqual(Counts.of(pairs=pairs), Counts(main=1, spare=-2))

    def test_empty(self):
        self.assertEqual(Counts.of([]), Counts())
        self.assertEqual(Counts.of(()), Counts())

    def test_integers_of_one_word_are_added(self):
        self.assertEqual(Counts.of([("a", 1), ("b", 5), ("a", 2), ("a", -4)]), Counts(a=-1, b=5))
        self.assertEqual(Counts.of([("a", 1), ("a", -1)]).pairs(), [])

    def test_sums_may_be_longer(self):
        self.assertEqual(Counts.of([("a", LONG)] * 20)["a"], 20 * LONG)

    def test_no_list_and_no_tuple(self):
        for value in ("ab", "", None, True, 1, 10 ** 39, Counts(), Counts(a=1), {}, AtMost(1, "a"),
                      Rules(AtMost(1, "a"))):
            with self.assertRaises(BadCounts) as caught:
                Counts.of(value)
            self.assertEqual(caught.exception.at, -1)

    def test_wrong_entries(self):
        wrong = odd_values() + [
            ["a", 1], ("a",), ("a", 1, 1), ("A", 1), (1, "a"), ("a", "1"), ("a", None), ("a", True),
            ("a", False), ("a", 10 ** 30), ("a", -10 ** 30), (True, 1), (("a", 1),), ("a", (1,)),
            (["a"], 1), ("abcdefghi", 1), nested(10), ("a", nested(9)),
        ]
        for entry in wrong:
            for pairs in ([("a", 1), entry, ("B", 1)], (("a", 1), entry, entry)):
                with self.assertRaises(BadCounts) as caught:
                    Counts.of(pairs)
                self.assertEqual(caught.exception.at, 1, entry)

    def test_first_and_last_wrong_entry(self):
        for at in (0, 1499, 2999):
            pairs = [("a", 1)] * 3000
            pairs[at] = ("a", True)
            with self.assertRaises(BadCounts) as caught:
                Counts.of(pairs)
            self.assertEqual(caught.exception.at, at)

    def test_passed_pairs_are_copied_and_not_changed(self):
        pairs = [("b", 1), ("a", 0), ("b", 1)]
        counts = Counts.of(pairs)
        self.assertEqual(pairs, [("b", 1), ("a", 0), ("b", 1)])
        pairs.append(("b", 1))
        self.assertEqual(counts, Counts(b=2))


class TestTally(unittest.TestCase):

    def test_each_time(self):
        self.assertEqual(Counts.tally(["a", "b", "a", "self", "a"]).pairs(),
                         [("a", 3), ("b", 1), ("self", 1)])

    def test_none(self):
        self.assertEqual(Counts.tally([]), Counts())

    def test_argument_is_copied(self):
        words = ["a"]
        counts = Counts.tally(words=words)
        words.append("a")
        self.assertEqual(counts, Counts(a=1))


class TestItems(unittest.TestCase):

    def test_reading_a_wrong_word(self):
        counts = Counts(main=1)
        for word in odd_values() + [0, 1, -1]:
            with self.assertRaises(BadWord) as caught:
                counts[word]
            self.assertIs(caught.exception.word, word)

    def test_writing(self):
        counts = Counts(a=1)
        second = counts
        counts["b"] = 5
        counts["a"] = -LONG
        self.assertIs(second, counts)
        self.assertEqual(second.pairs(), [("a", -LONG), ("b", 5)])

    def test_writing_zero(self):
        counts = Counts(a=1)
        counts["a"] = 0
        counts["b"] = 0
        self.assertEqual((counts.pairs(), len(counts), bool(counts)), ([], 0, False))

    def test_writing_a_wrong_word_changes_nothing(self):
        counts = Counts(a=1)
        for word in odd_values() + [0, 1]:
            with self.assertRaises(BadWord) as caught:
                counts[word] = True
            self.assertIs(caught.exception.word, word)
        self.assertEqual(counts.pairs(), [("a", 1)])

    def test_writing_a_wrong_number_changes_nothing(self):
        counts = Counts(a=1)
        for number in odd_numbers():
            with self.assertRaises(BadNumber) as caught:
                counts["a"] = number
            self.assertIs(caught.exception.number, number)
        self.assertEqual(counts.pairs(), [("a", 1)])

    def test_contains(self):
        counts = Counts(a=1, b=-1, c=0)
        self.assertIs("a" in counts, True)
        self.assertIs("b" in counts, True)
        self.assertIs("c" in counts, False)
        self.assertIs("d" in counts, False)

    def test_contains_any_value(self):
        for value in odd_values() + [0, 1, ("a", 1), ["a"]]:
            self.assertIs(value in Counts(a=1), False)

    def test_len_and_bool(self):
        self.assertEqual(len(Counts(a=1, b=-1)), 2)
        self.assertIs(bool(Counts(a=1, b=-1)), True)
        self.assertIs(bool(Counts(a=0)), False)

    def test_no_iteration(self):
        for action in (iter, list, tuple, sorted):
            with self.assertRaises(TypeError):
                action(Counts(a=1))


class TestShowing(unittest.TestCase):

    def test_total(self):
        self.assertEqual(Counts().total, 0)
        self.assertEqual(Counts(a=3, b=-5).total, -2)
        self.assertEqual(Counts(a=LONG, b=LONG).total, 2 * LONG)
        counts = Counts(a=3)
        counts["b"] = 4
        self.assertEqual(counts.total, 7)

    def test_pairs_and_words_ascend(self):
        counts = Counts(b=1, abc=2, ab=3, a=-4)
        self.assertEqual(counts.pairs(), [("a", -4), ("ab", 3), ("abc", 2), ("b", 1)])
        self.assertEqual(counts.words(), ["a", "ab", "abc", "b"])

    def test_returned_lists_are_new(self):
        counts = Counts(a=1)
        counts.pairs().append(("b", 1))
        counts.words().clear()
        self.assertEqual((counts.pairs(), counts.words()), ([("a", 1)], ["a"]))

    def test_only(self):
        counts = Counts(a=1, b=-2, c=3)
        self.assertEqual(counts.only("c", "a", "d", "a"), Counts(a=1, c=3))
        self.assertEqual(counts.only(), Counts())
        self.assertEqual(counts, Counts(a=1, b=-2, c=3))

    def test_only_is_new(self):
        counts = Counts(a=1)
        part = counts.only("a")
        part["a"] = 7
        self.assertEqual(counts["a"], 1)

    def test_copy(self):
        counts = Counts(a=1, b=2) * LONG
        copied = counts.copy()
        self.assertEqual(copied, counts)
        copied["a"] = 5
        counts["b"] = 6
        self.assertEqual(copied, Counts(a=5) + Counts(b=2) * LONG)
        self.assertEqual(counts, Counts(a=1) * LONG + Counts(b=6))

    def test_columns_example(self):
        self.assertEqual(Counts(main=1).columns(), "main           1")

    def test_columns(self):
        counts = Counts(main=1234567, a=-1000, longword=12)
        self.assertEqual(counts.columns(), "a         -1,000\nlongword      12\nmain    1,234,567")
        self.assertEqual(counts.columns("main", "none", "a", "main"),
                         "main    1,234,567\nnone           0\na         -1,000\nmain    1,234,567")

    def test_columns_of_nothing(self):
        self.assertEqual(Counts().columns(), "")
        self.assertEqual(Counts().columns("a"), "a              0")

    def test_columns_that_are_exceeded(self):
        counts = Counts(a=99999999, b=-999999, c=999999, d=-9999999)
        self.assertEqual(counts.columns(),
                         "a       99,999,999\nb       -999,999\nc        999,999\nd       -9,999,999")
        self.assertEqual(Counts(longword=LONG).columns(),
                         "longword" + ",".join(["999"] * 10))

    def test_repr(self):
        self.assertEqual(repr(Counts(spare=-2, main=1, none=0)), "Counts(main=1, spare=-2)")
        self.assertEqual(repr(Counts()), "Counts()")
        self.assertEqual(str(Counts(a=LONG)), "Counts(a=999999999999999999999999999999)")


class TestEqual(unittest.TestCase):

    def test_equal(self):
        self.assertTrue(Counts(a=1, b=2) == Counts(b=2, a=1, c=0))
        self.assertFalse(Counts(a=1, b=2) != Counts(b=2, a=1, c=0))
        self.assertFalse(Counts(a=1) == Counts(a=2))
        self.assertFalse(Counts(a=1) == Counts(b=1))
        self.assertTrue(Counts(a=1) != Counts(a=1, b=1))

    def test_other_classes(self):
        counts = Counts(a=1)
        for value in (None, 0, 1, True, "Counts(a=1)", [("a", 1)], ("a", 1), {"a": 1},
                      AtMost(1, "a"), Rules(AtMost(1, "a"))):
            self.assertIs(counts == value, False)
            self.assertIs(value == counts, False)
            self.assertIs(counts != value, True)
        self.assertIs(Counts() == 0, False)
        self.assertIs(Counts() == [], False)

    def test_an_object_that_is_equal_to_all(self):
        class Same:
            def __eq__(self, other):
                return True
        self.assertIs(Counts() == Same(), False)
