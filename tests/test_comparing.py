"""Whole calls and their outcomes, and desks that are alike or not (33, 34)."""

import itertools
import random
import unittest

import naive
from countsheld.comparing import Comparison, compare, is_comparison, outcomes
from countsheld.counts import Counts
from countsheld.desks import Desk
from countsheld.doors import Door
from countsheld.errors import BadDesk, BadWord, NoDoor, NoOwner, TooMany
from countsheld.rules import AtLeast, AtMost, Between, Rules
from making import desk, door
from odd import odd_values
from small import a_door, small_desk

WIDE = Rules(AtMost(9, "a"), AtMost(9, "b"), loose=["x", "y"])
RULES = Rules(AtMost(2, "a"), AtMost(1, "b"), loose=["x"])


class TestOutcomes(unittest.TestCase):

    def all(self, lines, kind, home, other, *wanted, store=(), rules=WIDE, begins=(Counts(),)):
        used = desk(rules=rules, begins=begins, limit=1, store=store, d=lines)
        found = outcomes(used, "d", kind, home, other)
        self.assertIs(found.__class__, list)
        self.assertEqual(len(found), len(set(found)))
        self.assertEqual(set(found), set(wanted), lines)
        self.assertEqual(set(outcomes(other=other, home=home, kind=kind, door="d", desk=used)), set(wanted))

    def test_doors_that_do_not_touch(self):
        self.all("do new a", None, Counts(a=1), None, ("let", (2, 0), None, None))
        self.all("do new a", None, Counts(a=1), Counts(b=3), ("let", (2, 0), (0, 3), None))
        self.all("look a = 0 / do new a", None, Counts(a=1), None, ("refused", (1, 0), None, None))
        self.all("look a = 1 / do new a / look a = 1", None, Counts(a=1, b=4), None, ("refused", (2, 4), None, None))
        self.all("hold / do all a -> b then new a", None, Counts(a=3), None, ("let", (1, 3), None, None))

    def test_the_named_row(self):
        self.all("do row a or x -> b", "a", Counts(a=1), None, ("let", (0, 1), None, "b"))
        self.all("do row a or x -> b", "x", Counts(a=1), None, ("let", (1, 1), None, "b"))
        self.all("do row a or x -> b", "y", Counts(a=1), None, ("refused", (1, 0), None, "y"))
        self.all("do row a -> gone", "a", Counts(a=2), Counts(a=5), ("let", (1, 0), (5, 0), "gone"))
        self.all("do row a -> x / look row a / do new b", "a", Counts(a=1), None, ("refused", (0, 0), None, "x"))
        self.all("do row a -> x / do row x -> y / do row y -> b", "a", Counts(a=1), None, ("let", (0, 1), None, "b"))
        self.all("look row x / do one a -> gone", "x", Counts(a=1), None, ("let", (0, 0), None, "x"))
        self.all("look row a / do one a -> gone", "a", Counts(a=1), None, ("refused", (1, 0), None, "a"))
        self.all("do all a -> b / look row a", "a", Counts(a=3), None, ("let", (1, 2), None, "a"))
        self.all("do row a -> gone / do row a -> gone", "a", Counts(a=3), None, ("refused", (2, 0), None, "gone"))

    def test_no_outcomes(self):
        self.all("do row a or b -> x", "b", Counts(a=1), None)
        self.all("do give a or b -> b", "a", Counts(), Counts(a=7))
        self.all("look a = 5 / do row b -> a", "b", Counts(a=4), None)

    def test_loose_rows_are_free(self):
        self.all("do one x -> a", None, Counts(), None, ("let", (1, 0), None, None), ("refused", (0, 0), None, None))
        self.all("do new a / do one x -> b", None, Counts(), None, ("let", (1, 1), None, None), ("refused", (1, 0), None, None))
        # They may leave and come between two lines, but for the row that the call names.
        self.all("do one x -> y / do one x -> y / do one x -> b", None, Counts(), None, ("let", (0, 1), None, None),
                 ("refused", (0, 0), None, None))
        self.all("do new x / do one x -> a", None, Counts(), None, ("let", (1, 0), None, None), ("refused", (0, 0), None, None))
        self.all("look row x / do one x -> a", "x", Counts(), None, ("let", (1, 0), None, "x"), ("refused", (0, 0), None, "x"))
        self.all("look row x / do row x -> a", "x", Counts(), None, ("let", (1, 0), None, "a"))
        self.all("do take x -> a", None, Counts(), Counts(b=1), ("let", (1, 0), (0, 1), None), ("refused", (0, 0), (0, 1), None))

    def test_doors_that_touch(self):
        self.all("do give a -> b", "a", Counts(a=2), Counts(a=3), ("let", (1, 0), (3, 1), "gone"))
        self.all("do give x -> b", "x", Counts(a=2), Counts(a=3), ("let", (2, 0), (3, 1), "gone"))
        self.all("do give x -> y", "x", Counts(a=2), Counts(a=3), ("let", (2, 0), (3, 0), "gone"))
        self.all("do take a -> b", None, Counts(), Counts(a=1), ("let", (0, 1), (0, 0), None))
        self.all("do take a -> b", None, Counts(), Counts(b=1), ("refused", (0, 0), (0, 1), None))
        self.all("do new a / do take a -> b / look b = 0", None, Counts(), Counts(a=1), ("refused", (1, 1), (0, 0), None))
        self.all("do join", None, Counts(a=1), Counts(a=2, b=3), ("let", (3, 3), None, None))
        self.all("do join / do new a / look a = 0", None, Counts(a=1), Counts(a=2), ("refused", (4, 0), None, None))
        self.all("do join if other a = 3", None, Counts(a=1), Counts(a=2), ("refused", (1, 0), (2, 0), None))
        self.all("do join then row a -> gone", "a", Counts(a=1), Counts(a=2), ("let", (2, 0), None, "gone"))
        self.all("do join", None, Counts(a=99), Counts(a=99), ("let", (198, 0), None, None))

    def test_the_store(self):
        rules = Rules(AtMost(1, "a"), AtLeast(1, "b"), AtMost(9, "b"))
        named = {"rules": rules, "begins": [Counts(b=1)]}
        self.all("do new b / do new a", None, Counts(a=1, b=1), None, ("refused", (1, 2), None, None), store=[0], **named)
        self.all("do new b / do new a", None, Counts(a=1, b=1), None, ("let", (2, 2), None, None), store=[1], **named)
        self.all("do take b -> a", None, Counts(b=1), Counts(b=1), ("refused", (0, 1), (0, 1), None), store=[1], **named)
        self.all("do take b -> a", None, Counts(b=1), Counts(b=1), ("let", (1, 1), (0, 0), None), store=[0], **named)
        self.all("do join then all a -> gone", None, Counts(a=1, b=1), Counts(a=1), ("let", (0, 1), None, None), store=[0, 1],
                 **named)
        # Beyond the rules, too.
        self.all("do new b", None, Counts(a=3), None, ("refused", (3, 0), None, None), store=[0], **named)
        self.all("look a = 3 / do all a -> b", None, Counts(a=3), None, ("let", (0, 3), None, None), store=[0, 1], **named)

    def test_errors_in_order(self):
        used = desk(rules=WIDE, new="do new a", row="look row a / do new a", give="do give a -> b", join="do join")
        for value in odd_values():
            with self.assertRaises(NoDoor) as caught:
                outcomes(used, value, value, Counts())
            self.assertIs(caught.exception.name, value)
            for name in ("row", "give", "new", "join"):
                if name in ("new", "join") and value is None:
                    continue
                with self.assertRaises(BadWord) as caught:
                    outcomes(used, name, value, Counts())
                self.assertIs(caught.exception.word, value)
        for name, kind in (("row", "c"), ("row", "gone"), ("new", "a"), ("join", "x")):
            with self.assertRaises(BadWord) as caught:
                outcomes(used, name, kind, Counts(), Counts())
            self.assertEqual(caught.exception.word, kind)
        for name, kind in (("give", "a"), ("give", "x"), ("join", None)):
            with self.assertRaises(NoOwner) as caught:
                outcomes(used, name, kind, Counts())
            self.assertIsNone(caught.exception.owner)
        self.assertEqual(outcomes(used, "row", "b", Counts()), [])

    def test_against_the_model(self):
        many = 0
        for seed in range(150):
            dice = random.Random(seed)
            used = small_desk(dice)
            for plan in used:
                for kind in [*used.rules.kinds, *used.rules.loose] if plan.names_row else [None]:
                    home, other = [tuple(dice.choice([0, 1, 2]) for _ in used.rules.kinds) for _ in range(2)]
                    many += self.one_call(used, plan, kind, home, other)
        self.assertGreater(many, 400)

    def one_call(self, used, plan, kind, home, other):
        wanted = set()
        if kind not in used.rules.kinds or home[used.rules.kinds.index(kind)] > 0:
            for let, model, one, two, row in naive.whole_calls(used, plan.name, (home, ()), [(other, ())], kind):
                mine = naive.standing_in(model, used, one)[0]
                theirs = other if two is None else naive.standing_in(model, used, two)
                theirs = theirs[0] if theirs and two is not None else theirs
                label = None if kind is None else dict(model.owners[one]["rows"]).get(row, "gone")
                wanted.add(("let" if let else "refused", mine, theirs, label))
        counts = [Counts.of(list(zip(used.rules.kinds, numbers))) for numbers in (home, other)]
        found = outcomes(used, plan.name, kind, *counts)
        self.assertEqual(set(found), wanted, (str(used), plan.name, kind, home, other))
        return len(found)


def both(one, two, name, kind, home, other):
    """A plain reading of 34: the outcomes of a call at both desks; home and other are numbers."""
    plans = [used[name] for used in (one, two) if name in used]
    if kind in one.rules.kinds and home[one.rules.kinds.index(kind)] == 0:
        return set(), set()
    found = []
    for used in (one, two):
        if name not in used:
            found.append({("refused", home, other, kind)})
            continue
        counts = [None if numbers is None else Counts.of(list(zip(used.rules.kinds, numbers))) for numbers in (home, other)]
        plan = used[name]
        if plan.names_row:
            found.append(set(outcomes(used, name, kind, *counts)))
        else:
            found.append({(*outcome[:3], kind) for outcome in outcomes(used, name, None, *counts)})
    assert plans
    return tuple(found)


def calls_at(one, two, numbers):
    """Yield (name, kind, home, other) of all calls between owners with these numbers."""
    for name in sorted({plan.name for used in (one, two) for plan in used}):
        plans = [used[name] for used in (one, two) if name in used]
        kinds = [*one.rules.kinds, *one.rules.loose] if any(plan.names_row for plan in plans) else [None]
        others = numbers if any(plan.touches for plan in plans) else [None]
        yield from itertools.product([name], kinds, numbers, others)


def within(used, *numbers):
    return all(one is None or used.rules.includes(one) for one in numbers)


def explored(one, two):
    """Return the least chains of numbers by outcomes of both desks, and the calls whose outcomes differ."""
    least = {one.rules.numbers(begin): 1 for begin in one.begins()}
    edges, changed = set(), True
    while changed:
        changed = False
        for name, kind, home, other in calls_at(one, two, sorted(least)):
            some, others = both(one, two, name, kind, home, other)
            for _, mine, theirs, _ in some & others:
                if within(one, mine, theirs):
                    edges.add((home, mine))
                    if theirs is not None:
                        edges.add((other, theirs))
        for before, behind in edges:
            if before in least and least.get(behind, 10 ** 9) > least[before] + 1:
                least[behind] = least[before] + 1
                changed = True
    parting = [call for call in calls_at(one, two, sorted(least)) if len(set(map(frozenset, both(one, two, *call)))) > 1]
    return least, parting


class TestCompare(unittest.TestCase):

    def check(self, one, two):
        """Compare the desks both ways, and look at the certificates; return the length."""
        least, parting = explored(one, two)
        for first, second in ((one, two), (two, one)):
            found = compare(first, second)
            self.assertIsInstance(found, Comparison)
            self.assertIs(found.certificate.__class__, tuple)
            self.assertIs(is_comparison(first, second, found.certificate), True, (str(one), str(two), found.certificate))
            self.assertIs(is_comparison(second, first, found.certificate), True)
            self.assertEqual(bool(found), not parting, (str(one), str(two)))
            if not parting:
                self.assertEqual((found.certificate[0], len(found.certificate), len(found)), ("alike", 2, 0))
                self.assertEqual(sorted(found.certificate[1]), sorted(least))
            else:
                self.assertEqual((found.certificate[0], len(found.certificate)), ("parted", 3))
                self.assertEqual(len(found), min(least[home] for _, _, home, _ in parting))
                self.assertEqual(self.length(found.certificate), len(found))
        return len(found)

    def length(self, certificate):
        _, lines, call = certificate
        at, many = call[2], 1
        while lines[at][1] != "begin":
            at, many = lines[at][2], many + 1
        return many

    def of(self, text, *more, limit=1, store=(), begins=(Counts(),), rules=RULES):
        doors = [door(*one.split(": ")) for one in (text, *more)]
        return Desk(rules, doors, list(begins), limit=limit, store=store)

    def test_a_desk_with_itself(self):
        for one in (self.of("d: do new a if a < 2"), self.of("d: do give a -> b", "e: do new a", store=[0, 1]), self.of("d: do join")):
            self.assertEqual(self.check(one, one), 0)
        found = compare(self.of("d: do new a if a < 2"), self.of("d: do new a if a < 2"))
        self.assertEqual(sorted(found.certificate[1]), [(0, 0), (1, 0), (2, 0)])

    def test_what_does_not_matter(self):
        one = self.of("d: do new a if a < 2", "e: do one a -> b if b = 0")
        self.assertEqual(self.check(one, self.of("e: do one a -> b if b = 0", "d: do new a if a < 2")), 0)
        self.assertEqual(self.check(one, self.of("d: hold / do new a if a < 2", "e: do one a -> b if b = 0", limit=3)), 0)
        self.assertEqual(self.check(one, self.of("d: look a < 2 / do new a", "e: do one a -> b if b != 1")), 0)
        self.assertEqual(self.check(one, self.of("d: do new a", "e: do one a -> b", store=[0, 1])), 0)
        self.assertEqual(self.check(one, self.of("d: do new a", "e: do one a -> b", store=[1, 0])), 0)
        self.assertEqual(self.check(one, self.of("d: do new a if a < 2", "e: do one a -> b if b = 0", "f: do new a if a > 2")), 0)

    def test_a_missing_door(self):
        one = self.of("d: do new a if a < 2")
        self.assertEqual(self.check(one, self.of("d: do new a if a < 2", "e: look a = 2 / do new b")), 3)
        # A door that is always refused with nothing changed is like none.
        self.assertEqual(self.check(one, self.of("d: do new a if a < 2", "e: look a = 3 / do new b")), 0)
        self.assertEqual(self.check(one, self.of("d: do new a if a < 2", "e: look row b / do new b")), 0)
        self.assertEqual(self.check(one, self.of("d: do new a if a < 2", "e: do give a -> a if a > 2")), 0)
        self.assertEqual(self.check(one, self.of("d: do new a if a < 2", "e: look row x / do new b")), 1)
        self.assertEqual(self.check(self.of("d: do one a -> b"), self.of("e: do one a -> b")), 0)

    def test_lines_and_tests_that_differ(self):
        self.assertEqual(self.check(self.of("d: do new a if a < 2"), self.of("d: do new a if a < 1")), 2)
        self.assertEqual(self.check(self.of("d: do new a then new b if a = 0"), self.of("d: do new a if a = 0 / do new b")), 0)
        # The first keeps what its first line did.
        self.assertEqual(self.check(self.of("d: do new b then new a if a < 2 and b = 0"), self.of("d: do new b if b = 0 / do new a if a < 2")), 0)
        self.assertEqual(self.check(self.of("d: do new a / do new b if b = 0"), self.of("d: do new a then new b if b = 0")), 2)

    def test_rows_that_one_desk_passes_over(self):
        # The same but for the kind of the row behind it.
        one = self.of("d: look row a / do new b if b = 0", "n: do new a if a = 0")
        self.assertEqual(self.check(one, self.of("d: look a = 1 / do new b if b = 0", "n: do new a if a = 0")), 1 + 1)
        self.assertEqual(self.check(self.of("d: do row a -> x", "n: do new a if a = 0"), self.of("d: do one a -> x", "n: do new a if a = 0")), 2)
        # No call is made for a row that the home does not have.
        self.assertEqual(self.check(self.of("d: do row a -> b"), self.of("d: do one a -> b")), 0)
        self.assertEqual(self.check(self.of("d: do row a or b -> b"), self.of("d: do new a if a > 0")), 0)

    def test_doors_that_touch_in_one_desk(self):
        start = [Counts(a=1)]
        self.assertEqual(self.check(self.of("d: do give a -> a if other a < 2", begins=start), self.of("d: do row a -> gone", begins=start)), 1)
        self.assertEqual(self.check(self.of("d: do take a -> a if a > 1", begins=start), self.of("d: do new b if b > 0", begins=start)), 0)
        self.assertEqual(self.check(self.of("d: do take b -> a", begins=start), self.of("d: look b = 3 / do join", begins=start)), 0)

    def test_only_the_other_owner_differs(self):
        start = [Counts(a=1)]
        self.assertEqual(self.check(self.of("d: do give a -> b if other b = 0", begins=start),
                                    self.of("d: do give a -> x if other b = 0", begins=start)), 1)
        # Other owners come about by a long chain, the home is one of a begin.
        one = self.of("u: do new a if a < 2", "d: do give x -> b if other a = 2 and other b = 0 and b = 0 and a = 0")
        two = self.of("u: do new a if a < 2", "d: do give x -> a if other a = 9")
        self.assertEqual(self.check(one, two), 1)
        self.assertGreater(len(compare(one, two).certificate[1]), 1)

    def test_beyond_calls_that_differ(self):
        # Numbers that both desks allow behind a call of which other outcomes differ.
        one = self.of("d: do one x -> a if a < 2", "e: look a = 2 / do new b")
        two = self.of("d: do one x -> a if a < 2 and b = 0", "e: look a = 2 / do new b then new b")
        self.check(one, two)
        one = self.of("d: do one x -> a", "e: do give a -> b if b = 0 and a = 2", store=[0, 1])
        two = self.of("d: do one x -> a / do one x -> x", "e: do give a -> b if b = 0 and a = 2", store=[0, 1])
        self.assertEqual(self.check(one, two), 1)
        # The home at which a call differs is reached only through a call that differs, too.
        one = self.of("d: do one x -> a if a < 2", "e: do give x -> b if a = 0 and other a = 2 and other b = 0")
        two = self.of("d: do one x -> a if a < 2 / do one x -> x", "e: do give x -> a if a = 0 and other a = 2 and other b = 0")
        self.assertEqual(self.check(one, two), 1)
        table = (((0, 0), "begin", 0, None), ((0, 0), "begin", 0, None), ((1, 0), "home", 1, None), ((2, 0), "home", 2, None))
        self.assertTrue(is_comparison(one, two, ("parted", table, ("e", "x", 0, 3))))

    def test_the_least_chain_of_the_home(self):
        # A call differs at an owner of a begin, but only with another owner that comes about later than other differences.
        rules = Rules(AtMost(3, "a"), AtMost(1, "b"), loose=["x"])
        doors = ["u: do new a if a < 3", "v: look a = 1 / do new b"]
        one = self.of(*doors, "d: do give x -> b if a = 0 and b = 0 and other a = 3 and other b = 0", rules=rules)
        two = self.of(doors[0], "v: look a = 1 / do new b then all b -> gone", "d: do join if a = 0 and b = 0 and other a = 3 and other b = 0",
                      rules=rules)
        self.assertEqual(self.check(one, two), 1)
        _, lines, call = compare(one, two).certificate
        self.assertEqual((call[0], lines[call[2]][0], lines[call[3]][0]), ("d", (0, 0), (3, 0)))
        # Lines of the other owner come of others' calls.
        rules = Rules(AtMost(1, "a"), AtMost(1, "b"), AtMost(1, "c"))
        doors = ["u: do new a if a = 0", "g: do give a -> b if other b = 0", "h: do give b -> c if other c = 0"]
        one = self.of(*doors, "d: look c = 1 / do all c -> gone", rules=rules)
        two = self.of(*doors, "d: look c = 1 / do all c -> a", rules=rules)
        self.assertEqual(self.check(one, two), 2)
        self.assertIn("other", [line[1] for line in compare(one, two).certificate[1]])

    def test_counts_beyond_the_rules_are_not_gone_on_from(self):
        one = self.of("d: do new a", "e: look a > 2 / do new b")
        self.assertEqual(self.check(one, self.of("d: do new a", "e: look a > 2 / do new a")), 0)
        give = self.of("d: do give a -> a", "e: look a = 0 / do new b", begins=[Counts(a=2)])
        # The touched owner has too many rows then, so that the home is not gone on from, either.
        self.assertEqual(self.check(give, self.of("d: do give a -> a", "e: do new b if a = 7", begins=[Counts(a=2)])), 0)

    def test_errors_in_order(self):
        one = self.of("d: do new a")
        forty = Rules(AtMost(9, "a"), AtMost(3, "b"))
        more = Rules(AtMost(9, "a"), AtMost(4, "b"))
        self.assertEqual((len(forty), len(more)), (40, 50))
        many = self.of("d: do new a", rules=more, begins=[Counts()])
        for act in (lambda first, second: compare(first, second), lambda first, second: is_comparison(first, second, None)):
            with self.assertRaises(BadDesk) as caught:
                act(one, self.of("d: do new a", rules=Rules(AtMost(2, "a"), AtMost(1, "b")), begins=[Counts(a=1)]))
            self.assertEqual(caught.exception.what, "rules")
            with self.assertRaises(BadDesk) as caught:
                act(many, self.of("d: do new a", rules=forty))
            self.assertEqual(caught.exception.what, "rules")
            for begins in ([Counts(a=1)], [Counts(), Counts()], [Counts(), Counts(a=1)]):
                with self.assertRaises(BadDesk) as caught:
                    act(one, self.of("d: do new a", begins=begins))
                self.assertEqual(caught.exception.what, "begins")
                with self.assertRaises(BadDesk) as caught:
                    act(many, self.of("d: do new a", rules=more, begins=begins))
                self.assertEqual(caught.exception.what, "begins")
            with self.assertRaises(BadDesk) as caught:
                act(self.of("d: do new a", begins=[Counts(), Counts(a=1)]), self.of("d: do new a", begins=[Counts(a=1), Counts()]))
            self.assertEqual(caught.exception.what, "begins")
            with self.assertRaises(TooMany) as caught:
                act(many, many)
            self.assertEqual(caught.exception.what, "counts")

    def test_forty_and_forty_one_counts(self):
        forty = Rules(AtMost(9, "a"), AtMost(3, "b"))
        one = self.of("d: do give a -> a", "e: do new b", "f: do new a", "g: do take b -> b", rules=forty, store=[0, 1])
        self.assertEqual(len(compare(one=one, other=one).certificate[1]), 40)
        kinds = Rules(AtMost(6, "a"), AtMost(5, "b"), AtMost(9, "a", "b"))
        self.assertEqual(len(kinds), 7 * 6 - 3)
        kinds = Rules(AtMost(6, "a"), AtMost(6, "b"), AtMost(9, "a", "b"), AtLeast(1, "a", "b"))
        self.assertEqual(len(kinds), 49 - 6 - 1)
        kinds = Rules(AtMost(6, "a"), AtMost(5, "b"), Between(0, 9, "a", "b", "c"), AtMost(0, "c"))
        self.assertEqual(len(kinds), 39)
        kinds = Rules(AtMost(7, "a"), AtMost(5, "b"), Between(1, 9, "a", "b"))
        self.assertEqual(len(kinds), 48 - 6 - 1)
        begins = [Counts(a=1)]
        with self.assertRaises(TooMany) as caught:
            compare(self.of("d: do new a", rules=kinds, begins=begins), self.of("d: do new a", rules=kinds, begins=begins))
        self.assertEqual(caught.exception.what, "counts")

    def test_rules_that_are_equal(self):
        # Written otherwise, with the same counts within.
        other = Rules(AtMost(1, "b"), Between(0, 2, "a"), loose=["x"])
        one, two = self.of("d: do new b", store=[1]), self.of("d: do new b", store=[0], rules=other)
        self.assertEqual(self.check(one, two), 0)
        self.assertEqual(self.check(one, self.of("d: do new b", store=[1], rules=other)), 2)

    def test_desks_by_chance(self):
        alike = parted = 0
        for seed in range(150):
            dice = random.Random(seed)
            one = small_desk(dice)
            doors = list(one.doors)
            at = dice.randrange(len(doors))
            roll = dice.random()
            if roll < 0.5:
                doors[at] = a_door(dice, one.rules, doors[at].name, 2)
            elif roll < 0.7:
                doors[at] = Door.of(doors[at].name, ["hold", *doors[at].lines]) if "hold" not in doors[at].lines else doors[at]
            elif roll < 0.8:
                doors[at] = Door.of("zz", doors[at].lines)
            found = self.check(one, one.varied(doors=doors, store=one.store if dice.random() < 0.7 else ()))
            alike, parted = alike + (found == 0), parted + (found > 0)
        self.assertGreater(alike, 30)
        self.assertGreater(parted, 30)


class TestIsComparison(unittest.TestCase):

    def of(self, *texts, begins=(Counts(),), store=()):
        return Desk(RULES, [door(*one.split(": ")) for one in texts], list(begins), store=store)

    def test_tables(self):
        one = self.of("d: do new a if a < 2", "e: do give a -> a if other a < 2")
        two = self.of("e: hold / do give a -> a if other a < 2", "d: hold / do new a if a < 2")
        table = ((0, 0), (1, 0), (2, 0))

        def look(thing):
            return is_comparison(one=one, thing=thing, other=two)

        for good in (table, table[::-1], table + table, (*table, (0, 1), (1, 1), (2, 1))):
            self.assertIs(look(("alike", good)), True)
        for bad in (table[1:], table[:2], (table[0], table[2]), (), (*table, (2, 1)), (*table, (3, 0)), (*table, (0,)), list(table),
                    (*table, [0, 0]), (*table, (0, False)), (*table, (True, 0)), None, (*table, None)):
            self.assertIs(look(("alike", bad)), False, bad)
        for bad in [*odd_values(), ["alike", table], ("alike",), ("alike", table, table), ("Alike", table), ("parted", table),
                    ("parted", table, table), table]:
            self.assertIs(look(bad), False)
        for value in odd_values():
            self.assertIs(look(("alike", (*table, value))), False)
            self.assertIs(look((value, table)), False)

    def test_tables_of_desks_that_part(self):
        one, two = self.of("d: do new a if a < 2"), self.of("d: do new a if a < 1")
        for table in (((0, 0),), ((0, 0), (1, 0)), ((0, 0), (1, 0), (2, 0))):
            self.assertIs(is_comparison(one, two, ("alike", table)), False)

    def test_parted(self):
        one = self.of("u: do new a if a < 2", "g: do give x -> b if other b = 0", "d: do take b -> b if a = 1 and b = 0")
        two = self.of("u: do new a if a < 2", "g: do give x -> b if other b = 0", "d: do take b -> x if a = 1 and b = 0")
        found = compare(one, two)
        self.assertEqual(len(found), 2)
        word, lines, call = found.certificate
        self.assertEqual((word, call[:2], lines[call[2]][0]), ("parted", ("d", None), (1, 0)))
        self.assertTrue(is_comparison(one, two, found.certificate))
        self.assertIn("other", [line[1] for line in lines])
        self.assertEqual(lines[call[3]][0][1], 1)
        self.tampered(one, two, lines, call)

    def tampered(self, one, two, lines, call):
        """Look at lines and calls that differ in one part against a plain reading of 34."""
        tried = [(lines, call)]
        for at, line in enumerate(lines):
            tried.append((lines[:at] + lines[at + 1:], call))
            tried.append((lines[:at] + (list(line),) + lines[at + 1:], call))
            for part in range(4):
                values = [None, True, False, 0, 1, 2, -1, at, len(lines), "begin", "home", "other", "alone", (0, 0), (1, 0), (0, 1),
                          (1, 1), (2, 1), (3, 0), (True, 0), [0, 0], (0,), ()]
                for value in values:
                    tried.append((lines[:at] + ((*line[:part], value, *line[part + 1:]),) + lines[at + 1:], call))
        for part in range(4):
            for value in [None, True, False, 0, 1, 2, -1, len(lines), "d", "u", "g", "a", "b", "x", "", "z", "gone", (), []]:
                tried.append((lines, (*call[:part], value, *call[part + 1:])))
        tried += [(list(lines), call), (lines, list(call)), (lines, call[:3]), (lines, (*call, None)), ((), call), (lines, None),
                  (lines + lines, call), (lines + ((2, 2),), call)]
        self.assertTrue(is_comparison(one, two, ("parted", lines, call)))
        for line in (lines[0] + (None,), lines[0][:3], lines[0][:1]):
            tried += [(lines + (line,), call), ((line,) + lines[1:], call)]
        good = 0
        for thing in tried:
            found = is_comparison(one, two, ("parted", *thing))
            self.assertIs(found, self.is_parted(one, two, *thing), thing)
            good += found
        self.assertGreater(good, 0)
        self.assertFalse(is_comparison(one, two, ("parted", lines, call, None)))
        self.assertFalse(is_comparison(one, two, ["parted", lines, call]))
        self.assertFalse(is_comparison(one, two, ("alike", lines, call)))

    def is_parted(self, one, two, lines, call):
        if not isinstance(lines, tuple) or not isinstance(call, tuple) or len(call) != 4:
            return False

        def index(value, end):
            return type(value) is int and 0 <= value < end

        for at, line in enumerate(lines):
            if not isinstance(line, tuple) or len(line) != 4:
                return False
            numbers, role, source, partner = line
            if not isinstance(numbers, tuple) or len(numbers) != 2 or not all(type(number) is int for number in numbers):
                return False
            if not within(one, numbers):
                return False
            if role == "begin":
                if partner is not None or not index(source, len(one.begins())):
                    return False
                if one.rules.numbers(one.begins()[source]) != numbers:
                    return False
                continue
            if role not in ("home", "other") or not index(source, at) or not (index(partner, at) or partner is None):
                return False
            if role == "other" and partner is None:
                return False
            told = None if partner is None else lines[partner][0]
            home, other = (lines[source][0], told) if role == "home" else (told, lines[source][0])
            ends = set()
            for name, kind, here, there in calls_at(one, two, sorted({home} | ({other} if other else set()))):
                if here == home and there == other:
                    some, others = both(one, two, name, kind, here, there)
                    ends |= {outcome[1 if role == "home" else 2] for outcome in some & others if within(one, *outcome[1:3])}
            if numbers not in ends:
                return False
        name, kind, home, other = call
        if not index(home, len(lines)) or not (other is None or index(other, len(lines))):
            return False
        told = [lines[home][0]] + ([] if other is None else [lines[other][0]])
        for listed in calls_at(one, two, sorted(set(told))):
            if listed == (name, kind, told[0], told[1] if other is not None else None) and not isinstance(kind, bool):
                some, others = both(one, two, *listed)
                return some != others
        return False

    def test_more_that_are_parted(self):
        pairs = [
            (self.of("d: do new a if a < 2"), self.of("d: do new a if a < 1")),
            (self.of("d: do row x -> a if a < 2", "g: do give a -> b"), self.of("d: do row x -> a if a < 2", "g: do give a -> a")),
            (self.of("d: do join", "u: do new a if a = 0"), self.of("d: do join if a = 0 and other a = 0", "u: do new a if a = 0")),
            (self.of("d: do one x -> a", store=[0]), self.of("d: do row x -> a", store=[0])),
        ]
        for one, two in pairs:
            certificate = compare(one, two).certificate
            self.tampered(one, two, certificate[1], certificate[2])

    def test_a_longer_chain_is_good_as_well(self):
        one, two = self.of("d: do new a if a < 2"), self.of("d: do new b if b < 2")
        lines = (((0, 0), "begin", 0, None), ((0, 0), "begin", 0, None))
        self.assertTrue(is_comparison(one, two, ("parted", lines, ("d", None, 1, None))))
        one = self.of("d: do new a if a < 2", "e: look a = 0 / do new b")
        two = self.of("d: do new a if a < 2", "e: look a = 0 / do new a")
        self.assertEqual(len(compare(one, two)), 1)
        one, two = self.of("d: do new a if a < 2", "e: do new b"), self.of("d: do new a if a < 2", "e: do new a")
        chain = (((0, 0), "begin", 0, None), ((1, 0), "home", 0, None), ((2, 0), "home", 1, None))
        for at in range(3):
            self.assertTrue(is_comparison(one, two, ("parted", chain, ("e", None, at, None))))
        self.assertFalse(is_comparison(one, two, ("parted", chain, ("d", None, 2, None))))


if __name__ == "__main__":
    unittest.main()
