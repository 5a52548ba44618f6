"""Rules: how they are made, what they say, and how they are written (7)."""

import itertools
import unittest

from countsheld.counts import Counts
from countsheld.errors import BadRule
from countsheld.rules import AtLeast, AtMost, Between, Exactly, Rule, read_rule
from odd import odd_values

BARRED = "hold look do row one all new give take join other if and or then gone".split()
DIGITS = range(10)
KINDS = [("a",), ("main", "abcdefgh"), ("b", "to", "least")]
CLASSES = (AtLeast, AtMost, Between, Exactly)


def all_rules():
    """Yield (rule, least, most, kinds, text) for each class, its numbers and some kinds."""
    for kinds in KINDS:
        written = " + ".join(kinds)
        for n in DIGITS:
            yield AtLeast(n, *kinds), n, None, kinds, f"at least {n} {written}"
            yield AtMost(n, *kinds), 0, n, kinds, f"at most {n} {written}"
            yield Exactly(n, *kinds), n, n, kinds, f"exactly {n} {written}"
            for m in range(n, 10):
                yield Between(n, m, *kinds), n, m, kinds, f"from {n} to {m} {written}"


def numbers_for(form):
    """Return right numbers for the class: Between takes two, the others one."""
    return (1, 2) if form is Between else (1,)


class TestMaking(unittest.TestCase):

    def what(self, wanted, form, *arguments):
        with self.assertRaises(BadRule) as caught:
            form(*arguments)
        self.assertEqual(caught.exception.what, wanted, arguments)

    def test_attributes(self):
        for rule, least, most, kinds, _ in all_rules():
            self.assertEqual((rule.least, rule.most, rule.kinds), (least, most, kinds))
            self.assertIs(rule.kinds.__class__, tuple)

    def test_kinds_as_passed(self):
        self.assertEqual(AtMost(1, "b", "a", "c").kinds, ("b", "a", "c"))

    def test_by_name(self):
        for form, names in ((AtLeast, ["least"]), (AtMost, ["most"]), (Between, ["least", "most"]),
                            (Exactly, ["number"])):
            with self.assertRaises(BadRule) as caught:
                form(**{name: 1 for name in names})
            self.assertEqual(caught.exception.what, "kinds")

    def test_numbers(self):
        wrong = odd_values() + [-1, 10, 10 ** 30, "1", 1 << 70, (1,)]
        for number in wrong:
            self.what("number", AtLeast, number, "a")
            self.what("number", AtMost, number, "a")
            self.what("number", Exactly, number, "a")
            self.what("number", Between, number, 9, "a")
            self.what("number", Between, 0, number, "a")

    def test_least_above_most(self):
        for least, most in itertools.product(DIGITS, DIGITS):
            if least > most:
                self.what("number", Between, least, most, "a")

    def test_barred_words(self):
        for form in CLASSES:
            for word in BARRED:
                self.what("kinds", form, *numbers_for(form), word)
                self.what("kinds", form, *numbers_for(form), "a", word)

    def test_words_that_are_almost_barred(self):
        for word in ("holds", "loo", "rows", "an", "i", "anew", "goner", "at", "least", "from"):
            self.assertEqual(AtMost(1, word).kinds, (word,))

    def test_kinds(self):
        for form in CLASSES:
            numbers = numbers_for(form)
            self.what("kinds", form, *numbers)
            self.what("kinds", form, *numbers, "a", "a")
            self.what("kinds", form, *numbers, "a", "b", "a")
            self.what("kinds", form, *numbers, "a", "b", "c", "d")
            self.what("kinds", form, *numbers, *["a"] * 3000)
            for value in odd_values() + [1, ("a",), ["a"]]:
                self.what("kinds", form, *numbers, value)
                self.what("kinds", form, *numbers, "a", value)
                self.what("kinds", form, *numbers, value, "a", "b")

    def test_number_before_kinds(self):
        for form in (AtLeast, AtMost, Exactly):
            self.what("number", form, True)
            self.what("number", form, 10, "hold")
        self.what("number", Between, 2, 1)
        self.what("number", Between, 2, True, "a", "a")
        self.what("number", Between, 3, 2, "row")


class TestSaying(unittest.TestCase):

    def test_total_of(self):
        counts = Counts(a=3, b=-5, c=10 ** 29)
        self.assertEqual(AtMost(1, "a").total_of(counts), 3)
        self.assertEqual(AtMost(1, "b", "a").total_of(counts), -2)
        self.assertEqual(Between(1, 2, "a", "b", "c").total_of(counts), 10 ** 29 - 2)
        self.assertEqual(Exactly(1, "d").total_of(counts=counts), 0)

    def test_holds_and_lacks(self):
        for rule, least, most, kinds, _ in all_rules():
            for total in range(-3, 13):
                counts = Counts.of([(kinds[0], total + 4), (kinds[-1], -4), ("zz", 7)])
                few = [("few", least - total)] if total < least else []
                many = [("many", total - most)] if most is not None and total > most else []
                self.assertEqual(rule.lacks(counts), few + many)
                self.assertIs(rule.holds(counts), few + many == [])

    def test_integers_below_zero(self):
        counts = Counts(a=5, b=-5)
        self.assertIs(Exactly(0, "a", "b").holds(counts), True)
        self.assertEqual(AtLeast(0, "b").lacks(counts), [("few", 5)])
        self.assertEqual(Between(1, 2, "b").lacks(Counts(b=-10 ** 29)), [("few", 10 ** 29 + 1)])
        self.assertEqual(AtMost(9, "b").lacks(Counts(b=10 ** 29)), [("many", 10 ** 29 - 9)])

    def test_at_most_with_a_total_below_zero(self):
        # Its least is 0.
        rule = AtMost(3, "a")
        self.assertIs(rule.holds(Counts(a=-2)), False)
        self.assertEqual(rule.lacks(Counts(a=-2)), [("few", 2)])

    def test_returned_lists_are_new(self):
        for rule in (AtLeast(1, "a"), AtMost(1, "a"), Between(1, 1, "a"), Exactly(1, "a")):
            for counts in (Counts(), Counts(a=1), Counts(a=2)):
                before = list(rule.lacks(counts))
                rule.lacks(counts).append("more")
                self.assertEqual(rule.lacks(counts), before)

    def test_counts_are_not_changed(self):
        counts = Counts(a=1)
        Exactly(2, "a", "b").lacks(counts)
        self.assertEqual(counts, Counts(a=1))


class TestEqual(unittest.TestCase):

    def test_across_the_classes(self):
        forms = []
        for n in range(4):
            forms += [AtLeast(n, "b", "a"), AtMost(n, "a", "b"), Exactly(n, "b", "a"), AtMost(n, "a")]
            forms += [Between(n, m, "a", "b") for m in range(n, 4)]
        for one, other in itertools.product(forms, forms):
            same = (one.least, one.most, sorted(one.kinds)) == (other.least, other.most, sorted(other.kinds))
            self.assertIs(one == other, same)
            self.assertIs(one != other, not same)

    def test_examples(self):
        self.assertEqual(AtMost(3, "a", "b"), Between(0, 3, "b", "a"))
        self.assertEqual(Exactly(1, "a"), Between(1, 1, "a"))
        self.assertEqual(Exactly(0, "a"), AtMost(0, "a"))
        self.assertNotEqual(AtLeast(0, "a"), AtMost(9, "a"))
        self.assertNotEqual(AtMost(1, "a"), AtMost(1, "a", "b"))
        self.assertNotEqual(AtMost(1, "a", "b"), AtMost(1, "a", "c"))

    def test_other_values(self):
        rule = AtMost(1, "a")
        for value in [None, True, 1, "at most 1 a", (0, 1, ("a",)), [], Counts(a=1), BadRule("text")]:
            self.assertIs(rule == value, False)
            self.assertIs(value == rule, False)
            self.assertIs(rule != value, True)

    def test_an_object_that_is_equal_to_all(self):
        class Same:
            def __eq__(self, other):
                return True
        self.assertIs(AtMost(1, "a") == Same(), False)

    def test_which_is_one_of_which(self):
        bases = {
            AtLeast: (Rule, AtLeast), AtMost: (Rule, AtMost),
            Between: (Rule, AtLeast, AtMost, Between),
            Exactly: (Rule, AtLeast, AtMost, Between, Exactly),
        }
        for form, wanted in bases.items():
            for other in (Rule,) + CLASSES:
                rule = form(*numbers_for(form), "a")
                self.assertIs(isinstance(rule, other), other in wanted)
        self.assertEqual(Between.__bases__, (AtLeast, AtMost))
        self.assertEqual(Exactly.__bases__, (Between,))


class TestWriting(unittest.TestCase):

    def test_str(self):
        for rule, _, _, _, text in all_rules():
            self.assertEqual(str(rule), text)

    def test_examples(self):
        self.assertEqual(str(AtLeast(1, "admin")), "at least 1 admin")
        self.assertEqual(str(AtMost(5, "project")), "at most 5 project")
        self.assertEqual(str(Between(1, 3, "admin", "owner")), "from 1 to 3 admin + owner")
        self.assertEqual(str(Exactly(1, "main")), "exactly 1 main")

    def test_kinds_as_passed(self):
        self.assertEqual(str(Exactly(1, "c", "a", "b")), "exactly 1 c + a + b")


class TestReading(unittest.TestCase):

    def what(self, wanted, text):
        with self.assertRaises(BadRule) as caught:
            read_rule(text)
        self.assertEqual(caught.exception.what, wanted, repr(text))

    def test_what_is_written(self):
        for rule, _, _, kinds, text in all_rules():
            read = read_rule(text)
            self.assertEqual(read, rule)
            self.assertIs(read.__class__, rule.__class__)
            self.assertEqual((read.kinds, str(read)), (kinds, text))
        self.assertEqual(read_rule(text="exactly 1 main"), Exactly(1, "main"))

    def test_almost_written(self):
        for text in ("at least 1 admin", "at most 5 project", "from 1 to 3 admin + owner", "exactly 1 main"):
            for at, sign in enumerate(text):
                if sign == " ":
                    self.what("text", text[:at] + text[at + 1:])
                    self.what("text", text[:at] + " " + text[at:])
                    self.what("text", text[:at] + "\n" + text[at + 1:])
                    self.what("text", text[:at + 1])
                if sign in "0123456789":
                    for number in ("10", "01", "-1", "+1", "1.", "", "x", "0x1", "1 1", "one", "\u0661", "\u00b2"):
                        self.what("text", text[:at] + number + text[at + 1:])
                if sign.isalpha():
                    self.what("text", text[:at] + sign.upper() + text[at + 1:])
            for around in (" ", "\n", "+", " +", " + ", "\n\n", ".", " b", " 1"):
                self.what("text", text + around)
            for ahead in (" ", "\n", "+ ", "rule ", "at "):
                self.what("text", ahead + text)
        for text in ("at", "at least", "at least 1", "at most", "at most 1", "from", "from 1", "from 1 to",
                     "from 1 to 3", "exactly", "exactly 1", "from 1 to 3 admin +"):
            self.what("text", text)

    def test_kinds_that_are_almost_written(self):
        for kinds in ("", "+", "a +", "+ a", "a+b", "a + + b", "a  + b", "a + b +", "a b", "a - b",
                      "a , b", "a and b", "a + B", "a + b1", "a + abcdefghi", "abcdefghi", "a +\nb", "1"):
            for head in ("at least 1 ", "at most 1 ", "from 1 to 2 ", "exactly 1 "):
                self.what("text", head + kinds)

    def test_other_words(self):
        for text in ("at the 1 a", "at 1 a", "least 1 a", "most 1 a", "from 1 a", "from 1 at 3 a",
                     "from 1 to a", "to 1 from 3 a", "between 1 and 3 a", "exactly a", "exact 1 a",
                     "at least least 1 a", "at lest 1 a", "a", "1 a", "", " ", "\n"):
            self.what("text", text)

    def test_any_value(self):
        for value in odd_values() + [1, ["at", "least", "1", "a"], ("exactly 1 a",)]:
            self.what("text", value)
        self.what("text", "exactly 1 " + " + ".join(["a"] * 300) + " + A")

    def test_then_as_the_class(self):
        for head in ("at least 1 ", "at most 1 ", "from 1 to 2 ", "exactly 1 "):
            for kinds in BARRED + ["a + a", "a + b + c + d", "a + gone", "row + a",
                                   " + ".join(["a"] * 300)]:
                self.what("kinds", head + kinds)
        self.what("number", "from 3 to 2 a")
        self.what("number", "from 3 to 2 hold + hold")
        self.what("text", "from 3 to 2 hold hold")
