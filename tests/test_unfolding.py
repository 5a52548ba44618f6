"""Sizes, lengths and chains, and ways and traces that are unfolded (27 to 29)."""

import random
import unittest

from countsheld.counts import Counts
from countsheld.errors import BadWay, TooMany
from countsheld.histories import play
from countsheld.judging import judge, possible, way_to
from countsheld.looker import is_certificate, is_way
from countsheld.rules import AtMost, Between, Exactly, Rules
from countsheld.standings import alone, meeting, standing_of
from countsheld.unfolding import chain_of, length_of, size_of, unfold
from making import desk
from odd import odd_values
from replay import replayed
from small import small_desk

MARK = desk(rules=Rules(AtMost(1, "main"), loose=["plain"]), limit=2, mark="look main = 0 / do row plain -> main")
ZERO, ONE = ((0,), ()), ((1,), ())
SPREAD = desk(rules=Rules(AtMost(2, "a")), begins=[Counts(), Counts(a=1)], limit=1, give="do give a -> a", take="do take a -> a",
              join="do join", up="do new a if a = 0")
BEGIN = (ZERO, "begin", 0, None)


class Unfolding(unittest.TestCase):

    def unfolded(self, used, lines):
        """Check what is unfolded, and return the history."""
        history, owner = unfold(used, lines)
        self.assertIs(history.__class__, tuple)
        self.assertLessEqual(len(history), 4000)
        run = play(used, history)
        last = lines[-1][0]
        if used.rules.includes(last[0]):
            self.assertIsNone(run.breach)
        else:
            self.assertEqual(run.breach, len(history) - 1)
        self.assertEqual(standing_of(replayed(used, history), owner), last, (str(used), lines))
        self.assertEqual(sum(event[0] in ("owner", "call", "go") for event in history), size_of(lines))
        return history


class TestMeasures(unittest.TestCase):

    def test_begin_and_alone(self):
        lines = (BEGIN, (ONE, "alone", 0, None), (ONE, "alone", 1, None))
        self.assertEqual([size_of(lines[:many]) for many in (1, 2, 3)], [1, 2, 3])
        self.assertEqual([length_of(lines[:many]) for many in (1, 2, 3)], [0, 1, 2])
        self.assertEqual([chain_of(lines[:many]) for many in (1, 2, 3)], [[0], [0, 1], [0, 1, 2]])

    def test_partners(self):
        lines = (BEGIN, (ONE, "alone", 0, None), BEGIN, (ONE, "other", 2, 1), (((2,), ()), "home", 3, 3), (ZERO, "other", 4, 3))
        self.assertEqual([size_of(lines[:many]) for many in range(1, 7)], [1, 2, 1, 4, 9, 14])
        self.assertEqual([length_of(lines[:many]) for many in range(1, 7)], [0, 1, 0, 1, 2, 3])
        self.assertEqual(chain_of(lines=lines), [2, 3, 4, 5])
        self.assertEqual((size_of(lines=lines), length_of(lines=lines)), (14, 3))

    def test_lines_that_are_not_used(self):
        lines = (BEGIN, BEGIN, (ONE, "alone", 0, None), BEGIN)
        self.assertEqual((size_of(lines), length_of(lines), chain_of(lines)), (1, 0, [3]))
        lines = (*lines, (ONE, "alone", 1, None))
        self.assertEqual((size_of(lines), length_of(lines), chain_of(lines)), (2, 1, [1, 4]))

    def test_sizes_that_double(self):
        lines = [BEGIN]
        for at in range(600):
            lines.append((ZERO, "home", at, at))
        self.assertEqual((size_of(tuple(lines)), length_of(tuple(lines))), (2 ** 601 - 1, 600))
        self.assertEqual(chain_of(tuple(lines)), list(range(601)))


class TestUnfold(Unfolding):

    def test_a_trace(self):
        history = self.unfolded(MARK, judge(MARK).certificate[1])
        self.assertEqual([event[0] for event in history], ["owner", "come", "call", "come", "call", "go", "go"])
        self.assertEqual(unfold(desk=MARK, lines=(((((0,), ())), "begin", 0, None),)), ((("owner", 0),), 0))

    def test_partners(self):
        one = (ONE, "begin", 1, None)
        for lines in (
            (one, (((2,), ()), "other", 0, 0)),
            (one, (((2,), ()), "home", 0, 0)),
            (one, BEGIN, (ONE, "home", 1, 0), (((2,), ()), "other", 2, 2), (ONE, "alone", 2, None)),
            (BEGIN, (ONE, "alone", 0, None), (((2,), ()), "home", 1, 1), (((3,), ()), "home", 2, 1)),
            (BEGIN, one, (((2,), ()), "home", 1, 1), (((2,), ()), "home", 2, 0), (((4,), ()), "home", 3, 3)),
        ):
            self.unfolded(SPREAD, lines)

    def test_lines_that_are_used_again_or_not(self):
        lines = (BEGIN, (ONE, "alone", 0, None), BEGIN, (((2,), ()), "home", 1, 1), (ONE, "alone", 0, None),
                 (((3,), ()), "home", 3, 1))
        history = self.unfolded(SPREAD, lines)
        self.assertEqual(sum(event[0] == "owner" for event in history), 3)
        self.assertEqual(unfold(SPREAD, lines[:3]), ((("owner", 0),), 0))

    def test_the_size(self):
        flip = desk(rules=Rules(AtMost(1, "a")), limit=1, up="do new a if a = 0", down="do one a -> gone", take="do take a -> a")
        lines = [BEGIN] + [(ONE if at % 2 == 0 else ZERO, "alone", at, None) for at in range(99)]
        self.assertEqual(size_of(tuple(lines)), 100)
        self.unfolded(flip, tuple(lines))
        lines.append((ZERO, "alone", 99, None))
        with self.assertRaises(TooMany) as caught:
            unfold(flip, tuple(lines))
        self.assertEqual(caught.exception.what, "events")
        lines += [(ONE if at % 2 == 0 else ZERO, "alone", at, None) for at in range(100, 300)]
        self.assertTrue(is_way(flip, tuple(lines)))
        self.assertRaises(TooMany, unfold, flip, tuple(lines))
        # A short chain behind many lines that it does not use.
        self.unfolded(flip, (*lines, (ONE, "alone", 0, None)))
        # Partners count each time.
        lines = lines[:50] + [BEGIN, (ONE, "home", 50, 49)]
        self.assertEqual((size_of(tuple(lines[:50])), size_of(tuple(lines))), (50, 52))
        self.unfolded(flip, tuple(lines))

    def test_partners_count_each_time(self):
        used = desk(rules=Rules(AtMost(1, "a")), limit=1, up="do new a if a = 0", down="do one a -> gone",
                    look="look a = 0 / do take a -> a if a = 9")
        going = ((0,), (("", (("look", 1),)),))
        lines = [BEGIN, (going, "alone", 0, None), (ZERO, "home", 1, 0)]
        for _ in range(5):
            at = len(lines) - 1
            lines += [(going, "alone", at, None), (ZERO, "home", at + 1, at)]
        sizes = [size_of(tuple(lines[:many])) for many in range(1, len(lines) + 1)]
        self.assertEqual(sizes[:7], [1, 2, 4, 5, 10, 11, 22])
        self.assertTrue(is_way(used, tuple(lines)))
        for many, size in enumerate(sizes, 1):
            if size <= 100:
                self.unfolded(used, tuple(lines[:many]))
            else:
                self.assertRaises(TooMany, unfold, used, tuple(lines[:many]))
        self.assertGreater(sizes[-1], 100)

    def test_bad_ways(self):
        for value in [*odd_values(), [BEGIN]]:
            if not isinstance(value, tuple) or value == ():
                with self.assertRaises(BadWay) as caught:
                    unfold(SPREAD, value)
                self.assertEqual(caught.exception.at, -1)
            for at in range(3):
                with self.assertRaises(BadWay) as caught:
                    unfold(SPREAD, (BEGIN,) * at + (value,) + (BEGIN,) * 2)
                self.assertEqual(caught.exception.at, at)
        for lines, at in ((((ONE, "begin", 0, None),), 0), ((BEGIN, (((3,), ()), "alone", 0, None)), 1),
                          ((BEGIN, (ONE, "alone", True, None)), 1), ((BEGIN, (ONE, "alone", 1, None)), 1)):
            with self.assertRaises(BadWay) as caught:
                unfold(SPREAD, lines)
            self.assertEqual(caught.exception.at, at)
        # A line beyond the rules can stand at the end alone.
        trace = judge(SPREAD).certificate[1]
        self.unfolded(SPREAD, trace)
        with self.assertRaises(BadWay) as caught:
            unfold(SPREAD, trace + (BEGIN,))
        self.assertEqual(caught.exception.at, len(trace) - 1)

    def test_bad_ways_ahead_of_too_many_events(self):
        flip = desk(rules=Rules(AtMost(1, "a")), limit=1, up="do new a if a = 0", down="do one a -> gone")
        lines = [BEGIN] + [(ONE if at % 2 == 0 else ZERO, "alone", at, None) for at in range(300)]
        lines[201] = (ONE, "alone", 201, None)
        with self.assertRaises(BadWay) as caught:
            unfold(flip, tuple(lines))
        self.assertEqual(caught.exception.at, 201)


class TestLooseRows(Unfolding):

    def used(self, **doors):
        rules = Rules(AtMost(3, "a"), AtMost(3, "b"), loose=["x", "y"])
        return desk(rules=rules, begins=[Counts(a=1)], limit=3, store=[0, 1], **doors)

    def through(self, used, *steps):
        """Unfold a way of lines (role, partner, wanted standing) that follow each other."""
        lines = [(((1, 0), ()), "begin", 0, None)]
        for standing in steps:
            lines.append((standing, "alone", len(lines) - 1, None))
        self.assertTrue(is_way(used, tuple(lines)))
        return self.unfolded(used, tuple(lines))

    def test_rows_come_and_leave(self):
        used = self.used(one="do one x -> a if a < 3", refuse="look a > 1 / do one x -> b then one b -> gone")
        going = ((2, 0), (("", (("refuse", 1),)),))
        history = self.through(used, ((2, 0), ()), going, ((2, 0), ()))
        self.assertEqual(history[1:3], (("come", 0, "x"), ("call", "one", 0, None, None, (1,))))
        # The line is refused only where no row of the kind is left.
        used = self.used(spare="look a = 1 / do one a -> x then one a -> gone / do new a", make="do all a -> x then new a",
                         one="look a = 1 / do one x -> b")
        going = ((1, 0), (("", (("one", 1),)),))
        history = self.through(used, ((1, 0), ()), going, ((1, 0), ()))
        self.assertIn(("leave", 0, 0), history)

    def test_named_rows(self):
        used = self.used(two="look row x / do one x -> a then row x -> b", y="look row y / do row y -> a")
        named, both = ("x", (("two", 1),)), ("x", (("two", 1), ("two", 1)))
        self.through(used, ((1, 0), (named,)), ((1, 0), (named, named)), ((2, 1), (("a", (("two", 1),)),)))
        self.through(used, ((1, 0), (named,)), ((1, 0), (named, named)), ((2, 1), (named,)))
        self.through(used, ((1, 0), (named,)), ((1, 0), (both,)), ((2, 1), (("b", (("two", 1),)),)))
        self.through(used, ((1, 0), (named,)), ((1, 0), ()), ((1, 0), (named,)), ((1, 0), (named, ("y", (("y", 1),)))))

    def test_rows_that_are_taken(self):
        used = self.used(take="do take x -> a", wait="look row x / do row x -> b",
                         look="look a > 0 / do take x -> b")
        zero = (((1, 0), ()), "begin", 0, None)
        named = ((1, 0), (("x", (("wait", 1),)),))
        waits = (named, "alone", 0, None)
        gone = ((1, 0), (("gone", (("wait", 1),)),))
        self.unfolded(used, (zero, waits, (gone, "other", 1, 0)))
        self.unfolded(used, (zero, waits, (named, "other", 1, 0)))
        self.unfolded(used, (zero, waits, (((2, 0), ()), "home", 0, 1)))
        looked = (((1, 0), (("", (("look", 1),)),)), "alone", 0, None)
        # Refused, since the touched owner has no such row.
        self.unfolded(used, (zero, looked, (((1, 0), ()), "home", 1, 0)))
        self.unfolded(used, (zero, looked, (((1, 1), ()), "home", 1, 0)))
        two = ((1, 0), (("x", (("wait", 1),)), ("x", (("wait", 1), ("wait", 1)))))
        lines = (zero, waits, (((1, 0), (("x", (("wait", 1),)),) * 2), "alone", 1, None), (two, "alone", 2, None))
        self.assertTrue(is_way(used, lines))
        for label, left in (((("wait", 1),), (("wait", 1), ("wait", 1))), ((("wait", 1), ("wait", 1)), (("wait", 1),))):
            self.unfolded(used, (*lines, (((1, 0), (("gone", label), ("x", left))), "other", 3, 0)))

    def test_picks_among_rows_that_the_line_itself_makes(self):
        used = self.used(make="do new b then new a then one a -> b then one b -> gone", hold="look row a / do row a -> a",
                         shift="look row a / do all a -> b then one b -> a then one b -> x")
        named = ("a", (("hold", 1),))
        for standing in (((1, 1), (("b", (("hold", 1),)),)), ((1, 1), (named,)), ((1, 1), (("gone", (("hold", 1),)),))):
            lines = ((((1, 0), ()), "begin", 0, None), (((1, 0), (named,)), "alone", 0, None), (standing, "alone", 1, None))
            if is_way(used, lines):
                self.unfolded(used, lines)
        self.assertTrue(is_way(used, (*lines[:2], (((1, 1), (named,)), "alone", 1, None))))

    def test_what_was_joined(self):
        used = self.used(join="do join then one a -> x then one a -> gone", wait="look row x / do row x -> b")
        zero = (((1, 0), ()), "begin", 0, None)
        waits = (((1, 0), (("x", (("wait", 1),)),)), "alone", 0, None)
        self.unfolded(used, (zero, waits, (((0, 0), (("x", (("wait", 1),)),)), "home", 1, 1)))


class TestWhichEvent(Unfolding):
    """Where several events lead to a standing, or several rows could be taken."""

    def test_both_owners_break_a_rule(self):
        used = desk(rules=Rules(Exactly(1, "a")), begins=[Counts(a=1)], limit=1, give="do give a -> a")
        begin = (ONE, "begin", 0, None)
        self.unfolded(used, (begin, (((2,), ()), "other", 0, 0)))
        self.unfolded(used, (begin, (ZERO, "home", 0, 0)))

    def test_the_other_owner_stays_within_the_rules(self):
        rules = Rules(AtMost(3, "a"), Between(1, 2, "b"))
        used = desk(rules=rules, begins=[Counts(a=1, b=1)], limit=1, bad="do take b -> a", good="do take a -> a", worse="do join")
        begin = (((1, 1), ()), "begin", 0, None)
        self.unfolded(used, (begin, (((2, 1), ()), "home", 0, 0)))
        # The home stays within them, too.
        used = desk(rules=rules, begins=[Counts(a=1, b=1)], limit=1, bad="do give b -> a", good="do give a -> a")
        self.unfolded(used, (begin, (((2, 1), ()), "other", 0, 0)))

    def test_a_line_that_has_to_wait_is_passed_over(self):
        rules = Rules(AtMost(2, "a"), loose=["x"])
        used = desk(rules=rules, begins=[Counts(a=1)], limit=2, d="hold / do take a -> x", e="look a > 0 / do take a -> x")
        begin = (ONE, "begin", 0, None)
        held = ((1,), (("", (("d", 1),)),))
        both = ((1,), (("", (("d", 1), ("e", 1))),))
        lines = (begin, (held, "alone", 0, None), (both, "alone", 1, None), (((0,), held[1]), "other", 1, 2))
        self.assertTrue(is_way(used, lines))
        self.unfolded(used, lines)

    def test_the_row_of_the_calls(self):
        rules = Rules(AtMost(2, "a"), loose=["x"])
        used = desk(rules=rules, begins=[Counts(a=1)], limit=3, take="do take x -> x", v="look row x / do row x -> a",
                    w="look row x / do row x -> a")
        begin = (((1,), ()), "begin", 0, None)
        for steps in ("vw", "wv", "v,w", "w,v", "vw,w", "w,vw", "w,vv", "vw,v", "vv,w", "v,vw", "v,vv", "vv,v", "w,ww", "vww"):
            # Calls of one row are written together; the rows come one after another.
            lines, rows = [begin], []
            for names in steps.split(","):
                rows.append(())
                for name in names:
                    rows[-1] = tuple(sorted((*rows[-1], (name, 1))))
                    groups = tuple(sorted(("x", calls) for calls in rows))
                    lines.append((((1,), groups), "alone", len(lines) - 1, None))
            for at in range(len(rows)):
                left = [("x", calls) for calls in rows[:at] + rows[at + 1:]] + [("gone", rows[at])]
                taken = ((1,), tuple(sorted(left)))
                self.assertTrue(is_way(used, (*lines, (taken, "other", len(lines) - 1, 0))))
                self.unfolded(used, (*lines, (taken, "other", len(lines) - 1, 0)))
                # The call of just this row goes on.
                for call in sorted(set(rows[at])):
                    calls = list(rows[at])
                    calls.remove(call)
                    left = [("x", calls) for calls in rows[:at] + rows[at + 1:]] + ([("a", tuple(calls))] if calls else [])
                    self.unfolded(used, (*lines, (((2,), tuple(sorted(left))), "alone", len(lines) - 1, None)))

    def test_rows_with_one_number_at_both_owners(self):
        rules = Rules(AtMost(2, "a"), loose=["x"])
        used = desk(rules=rules, begins=[Counts(a=1)], limit=2, e="do all a -> x then new a", d="look row x / do take x -> a then row x -> a")
        begin = (ONE, "begin", 0, None)
        named = ((1,), (("x", (("d", 1),)),))
        # The touched owner has rows of the kind, of which one has the number of the row that the home's call names.
        lines = (begin, (ONE, "alone", 0, None), (ONE, "alone", 1, None), (named, "alone", 0, None), (ONE, "home", 3, 2))
        history = self.unfolded(used, lines)
        self.assertEqual([event[2] for event in history if event[0] == "leave"], [0, 1])
        self.unfolded(used, (begin, (named, "alone", 0, None), (ONE, "home", 1, 0)))

    def test_rows_of_several_kinds_with_equal_calls(self):
        used = desk(rules=Rules(AtMost(2, "a"), AtMost(2, "b"), loose=["x"]), begins=[Counts(a=1, b=1)], limit=3,
                    d="look a = 1 / do row a or b or x -> gone")
        call = (("d", 1),)
        whole = [("a", call), ("b", call), ("x", call)]
        for order in ((0, 1, 2), (2, 1, 0), (1, 0, 2)):
            lines = [(((1, 1), ()), "begin", 0, None)]
            for many in (1, 2, 3):
                groups = tuple(sorted(whole[at] for at in order[:many]))
                lines.append((((1, 1), groups), "alone", many - 1, None))
            for at, numbers in enumerate(((0, 1), (1, 0), (1, 1))):
                gone = (numbers, tuple(one for one in whole if one != whole[at]))
                self.unfolded(used, (*lines, (gone, "alone", 3, None)))

    def test_rows_that_other_calls_name_are_not_taken(self):
        used = desk(rules=Rules(AtMost(3, "a"), AtMost(3, "b")), begins=[Counts(a=2)], limit=2, one="do one a -> b", take="do take a -> b",
                    e="look row a / do row a -> a")
        begin = (((2, 0), ()), "begin", 0, None)
        named = ("a", (("e", 1),))
        first = (begin, (((2, 0), (named,)), "alone", 0, None))
        for last in ((((1, 1), (named,)), "alone", 1, None), (((1, 1), (("b", (("e", 1),)),)), "alone", 1, None),
                     (((1, 0), (named,)), "other", 1, 0), (((1, 0), (("gone", (("e", 1),)),)), "other", 1, 0)):
            self.unfolded(used, (*first, last))


class TestAgainstDesks(Unfolding):

    def some_way(self, dice, used):
        """Return a way of lines by chance, some of which are not used, and perhaps a trace."""
        lines = [((used.rules.numbers(begin), ()), "begin", at, None) for at, begin in enumerate(used.begins())]
        for _ in range(12):
            source, partner = dice.randrange(len(lines)), dice.randrange(len(lines))
            before, beside = lines[source][0], lines[partner][0]
            found = [(one, "alone", None, None) for one in alone(used, before)]
            found += [(one, "home", partner, two) for one, two in meeting(used, before, beside)]
            found += [(two, "other", partner, one) for one, two in meeting(used, beside, before) if two]
            if not found:
                continue
            standing, role, told, two = dice.choice(sorted(found, key=str))
            line = (standing, role, source, told)
            if not used.rules.includes(standing[0]):
                return (*lines, line)
            if two is None or used.rules.includes(two[0]):
                lines.append(line)
        return tuple(lines)

    def test_ways_by_chance(self):
        many = broken = 0
        for seed in range(250):
            dice = random.Random(seed)
            used = small_desk(dice)
            lines = self.some_way(dice, used)
            within = used.rules.includes(lines[-1][0][0])
            self.assertEqual((is_way(used, lines), is_certificate(used, ("broken", lines))), (within, not within))
            if size_of(lines) <= 100:
                many += 1
                broken += not within
                self.unfolded(used, lines)
        self.assertGreater(many, 200)
        self.assertGreater(broken, 50)

    def test_all_ways_and_traces(self):
        for seed in range(40):
            used = small_desk(random.Random(seed))
            try:
                verdict = judge(used)
            except TooMany:
                continue
            if not verdict and size_of(verdict.certificate[1]) <= 100:
                self.unfolded(used, verdict.certificate[1])
            for standing in possible(used):
                way = way_to(used, standing)
                if size_of(way) <= 100:
                    self.unfolded(used, way)


if __name__ == "__main__":
    unittest.main()
