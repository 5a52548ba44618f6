"""What the document promises over the whole program (1 to 3): names, new results, renaming."""

import random
import unittest

from countsheld.books import Book, by_hand
from countsheld.comparing import compare, is_comparison, outcomes
from countsheld.counts import Counts
from countsheld.desks import Desk
from countsheld.doors import Door
from countsheld.errors import NoPick, TooMany
from countsheld.histories import play
from countsheld.judging import farthest, judge, possible, way_to
from countsheld.looker import is_certificate, is_way
from countsheld.mending import After, Demand, Help, Hold, Keep, Look, applied, enough, mends, mends_of, refusals
from countsheld.rules import AtMost, Rules, read_rule
from countsheld.shutting import future, is_future, openings, shut
from countsheld.standings import alone, at_rest, is_standing, meeting, standing_of
from countsheld.unfolding import chain_of, length_of, size_of, unfold
from making import desk
from small import small_desk

MARK = desk(rules=Rules(AtMost(1, "main"), loose=["plain"]), limit=2, mark="look main = 0 / do row plain -> main")
KEPT = MARK.varied(limit=1)
GIVE = desk(rules=Rules(AtMost(2, "a")), begins=[Counts(a=1)], limit=2, give="do give a -> a if other a < 2", up="look a = 0 / do new a")


class TestByName(unittest.TestCase):
    """Every function and method with parameters, all of them by name, and not in their order."""

    def test_counts_and_rules(self):
        self.assertEqual(Counts.of(pairs=[("a", 1)]), Counts.tally(words=["a"]))
        rule = read_rule(text="at most 1 a")
        self.assertEqual((rule.total_of(counts=Counts(a=2)), rule.holds(counts=Counts(a=2)), rule.lacks(counts=Counts(a=2))),
                         (2, False, [("many", 1)]))
        rules = Rules.of(loose=["x"], rules=[rule])
        self.assertEqual((rules.cap(kind="a"), rules.broken(counts=Counts(a=2)), rules.numbers(counts=Counts(a=2))), (1, (0,), (2,)))

    def test_doors_desks_and_books(self):
        up = Door.of(lines=["do one x -> a"], name="up")
        made = Desk(store=(), begins=[Counts()], limit=2, doors=[up], rules=Rules(AtMost(1, "a"), loose=["x"]))
        self.assertEqual(made.varied(store=None, limit=2, doors=None), made)
        self.assertEqual(Desk.read(text=str(made)), made)
        book = Book(desk=made)
        book.add_owner(begin=0)
        book.add_owner(begin=0)
        self.assertEqual(book.come(kind="x", owner=0), 0)
        self.assertIsNone(book.leave(row=0, owner=0))
        book.come(kind="x", owner=0)
        with self.assertRaises(NoPick):
            book.begin(picks=[5], other=None, row=None, owner=0, door="up")
        self.assertEqual(up(picks=[1], other=None, row=None, owner=0, book=book), 0)
        self.assertEqual((book.under_way(owner=0), book.call(number=0).door, book[0].numbers_of(kind="a")), ([], "up", [1]))
        self.assertIsNone(book.deploy(desk=made))
        self.assertIsNone(book[0].drop(row=1))
        self.assertEqual(by_hand(edits=[("add", "a")], owner=1, book=book), [0])
        run = play(history=[("owner", 0)], desk=made)
        self.assertEqual(run.counts_after(at=0), [(0, Counts())])

    def test_standings_and_verdicts(self):
        book = Book(desk=KEPT)
        book.add_owner()
        rest = at_rest(counts=Counts(), desk=KEPT)
        self.assertEqual(standing_of(owner=0, book=book), rest)
        self.assertTrue(is_standing(thing=rest, desk=KEPT))
        self.assertEqual(len(alone(only_going=False, standing=rest, desk=KEPT)), 1)
        self.assertEqual(meeting(only_going=True, other=rest, home=rest, desk=KEPT), [])
        verdict = judge(desk=KEPT)
        self.assertTrue(verdict.has(standing=rest))
        self.assertEqual(len(list(possible(desk=KEPT))), 3)
        way = way_to(standing=rest, desk=KEPT)
        self.assertTrue(is_way(thing=way, desk=KEPT) and is_certificate(thing=verdict.certificate, desk=KEPT))
        self.assertEqual(farthest(desk=KEPT), [(0, 1)])
        self.assertEqual((size_of(lines=way), length_of(lines=way), chain_of(lines=way)), (1, 0, [0]))
        self.assertEqual(unfold(lines=way, desk=KEPT), ((("owner", 0),), 0))

    def test_doors_desks_and_changes_compared(self):
        self.assertEqual(openings(counts=Counts(), desk=KEPT), ["mark"])
        self.assertEqual(shut(desk=KEPT), [("mark", (1,))])
        found = future(counts=Counts(), door="mark", desk=KEPT)
        self.assertTrue(is_future(thing=found, counts=Counts(), door="mark", desk=KEPT))
        self.assertEqual(outcomes(other=Counts(), home=Counts(), kind="plain", door="mark", desk=KEPT), [("let", (1,), (0,), "main")])
        found = compare(other=MARK, one=KEPT)
        self.assertTrue(found and is_comparison(thing=found.certificate, other=MARK, one=KEPT))
        changes = [Hold(door="mark"), Look(tests="main = 0", door="mark"), Demand(tests="main = 0", door="mark"),
                   Help(part="all main -> plain", door="mark"), After(part="new plain", door="mark"), Keep(rule=0)]
        self.assertEqual(len(applied(changes=changes, desk=MARK)["mark"]), 5)
        self.assertEqual([one(desk=MARK).rules == MARK.rules for one in changes], [True] * 6)
        self.assertEqual((mends(desk=MARK), mends_of(pool=changes[:1], desk=MARK)), ([], [(0,)]))
        self.assertEqual((enough(desk=MARK), refusals(desk=MARK.varied(store=[0]))), ([(0,)], [("mark", 1, 0)]))


class TestResults(unittest.TestCase):

    def test_each_list_is_new(self):
        rest = ((1,), ())
        way = way_to(GIVE, ((2,), ()))
        for make in (lambda: alone(GIVE, rest), lambda: meeting(GIVE, rest, rest), lambda: farthest(GIVE), lambda: chain_of(way),
                     lambda: openings(KEPT, Counts()), lambda: shut(KEPT), lambda: enough(MARK), lambda: mends(KEPT),
                     lambda: refusals(MARK.varied(store=[0])), lambda: outcomes(GIVE, "up", None, Counts())):
            first = make()
            kept = list(first)
            first.clear()
            self.assertEqual(make(), kept)

    def test_arguments_stay_as_they_are(self):
        counts, pool, history = Counts(a=1), [Hold("up"), Keep(0)], [["owner", 0]]
        text = str(GIVE)
        outcomes(GIVE, "give", "a", counts, counts)
        openings(KEPT, Counts())
        at_rest(GIVE, counts)
        mends_of(GIVE, pool)
        applied(GIVE, pool)
        judge(GIVE)
        self.assertEqual((counts, [one.text for one in pool], history, str(GIVE)), (Counts(a=1), ["Hold up", "Keep 0"], [["owner", 0]], text))

    def test_the_same_again(self):
        for seed in range(20):
            used = small_desk(random.Random(seed))
            try:
                first = judge(used).certificate
            except TooMany:
                continue
            self.assertEqual((judge(Desk.read(str(used))).certificate, list(possible(used))), (first, list(possible(used))))


NAMES = {"a": "zz", "b": "aa", "c": "mid", "d": "ef", "e": "de", "f": "dd"}


def renamed(text):
    """Return the text of a desk with other kinds and door names; begin lines keep their kinds ascending."""
    lines = []
    for line in text.split("\n"):
        tokens = [NAMES.get(token, token) for token in line.split(" ")]
        if tokens[0] == "begin":
            pairs = sorted(zip(tokens[1::2], tokens[2::2]))
            tokens = ["begin", *[token for pair in pairs for token in pair]]
        lines.append(" ".join(tokens))
    return "\n".join(lines)


def in_other_words(used, standing):
    """Return the standing with the other names; the ruled kinds a and b change places."""
    numbers, groups = standing
    listed = []
    for label, calls in groups:
        listed.append((NAMES.get(label, label), tuple(sorted((NAMES[name], at) for name, at in calls))))
    return numbers[::-1], tuple(sorted(listed))


class TestRenaming(unittest.TestCase):

    def test_kinds_doors_and_their_order(self):
        judged = 0
        for seed in range(80):
            one = small_desk(random.Random(seed))
            other = Desk.read(renamed(str(one)))
            other = other.varied(doors=list(other.doors)[::-1])
            try:
                first = judge(one)
            except TooMany:
                self.assertRaises(TooMany, judge, other)
                continue
            second = judge(other)
            judged += 1
            self.assertEqual((bool(first), len(first)), (bool(second), len(second)), str(one))
            self.assertEqual({in_other_words(one, standing) for standing in possible(one)}, set(possible(other)))
            try:
                self.assertEqual(farthest(one), farthest(other))
            except TooMany:
                self.assertRaises(TooMany, farthest, other)
            order = [plan.name for plan in other]
            wanted = sorted(((NAMES[name], line, rule) for name, line, rule in refusals(one)), key=lambda row: (order.index(row[0]), row[1:]))
            self.assertEqual(refusals(other), wanted)
            if first:
                shown = {(NAMES[name], numbers[::-1]) for name, numbers in shut(one)}
                self.assertEqual(set(shut(other)), shown)
        self.assertGreater(judged, 60)


class TestSpeed(unittest.TestCase):

    def test_desks_with_many_standings(self):
        rules = Rules(AtMost(9, "a"), AtMost(9, "b"), loose=["x", "y"])
        used = desk(rules=rules, begins=[Counts(a=3, b=2)], limit=1, store=[0, 1], d="do give a or b or x -> b if other a + b < 5",
                    e="do give a -> a", f="do take x -> a then new b", g="do one x -> b then take a -> x",
                    h="do give b or x -> a if a > 1", i="do join then new a")
        verdict = judge(used)
        self.assertEqual((bool(verdict), len(verdict.certificate[1])), (True, 100))
        self.assertTrue(is_certificate(used, verdict.certificate))
        self.assertEqual(mends(used, Demand("d", "a < 9"), Demand("e", "b < 9"), Keep(0), Keep(1)), [()])
        self.assertEqual(enough(used), [(0, 1)])


if __name__ == "__main__":
    unittest.main()
