"""Certificates, tables, ways and traces that are looked at (26 to 28)."""

import random
import unittest

from countsheld.counts import Counts
from countsheld.errors import TooMany
from countsheld.judging import judge, possible, way_to
from countsheld.looker import is_certificate, is_way
from countsheld.rules import AtMost, Exactly, Rules
from countsheld.standings import alone, is_standing, meeting
from countsheld.unfolding import length_of
from making import desk
from odd import odd_values
from small import small_desk

MARK = desk(rules=Rules(AtMost(1, "main"), loose=["plain"]), limit=2, mark="look main = 0 / do row plain -> main")
KEPT = MARK.varied(limit=1)
FREE, LOOKED, TAKEN = ((0,), ()), ((0,), (("plain", (("mark", 1),)),)), ((1,), ())
GIVE = desk(rules=Rules(AtMost(2, "a"), AtMost(1, "b")), begins=[Counts(), Counts(a=1)], limit=1, give="do give a -> a",
            swap="do take a -> b if b = 0", join="do join if a = 0 and b = 0 and other a < 2")


def is_line(used, lines, at, end):
    """A plain reading of 27 and, for the last line, of 28."""
    line = lines[at]
    if not isinstance(line, tuple) or len(line) != 4 or not is_standing(used, line[0]):
        return False
    standing, role, source, partner = line
    within = used.rules.includes(standing[0])
    if not within and not (end == "trace" and at == len(lines) - 1):
        return False
    if end == "trace" and at == len(lines) - 1 and within:
        return False
    if type(source) is not int or source < 0:
        return False
    if role == "begin":
        begins = [(used.rules.numbers(begin), ()) for begin in used.begins()]
        return partner is None and source < len(begins) and begins[source] == standing
    if source >= at:
        return False
    before = lines[source][0]
    if role == "alone":
        return partner is None and standing in alone(used, before)
    if role not in ("home", "other") or type(partner) is not int or not 0 <= partner < at:
        return False
    beside = lines[partner][0]
    if role == "home":
        ends = [two for one, two in meeting(used, before, beside) if one == standing]
    else:
        ends = [one for one, two in meeting(used, beside, before) if two == standing]
    return any(not within or one is None or used.rules.includes(one[0]) for one in ends)


def is_lines(used, thing, end):
    return isinstance(thing, tuple) and len(thing) > 0 and all(is_line(used, thing, at, end) for at in range(len(thing)))


class TestTables(unittest.TestCase):

    def yes(self, *table, used=KEPT):
        self.assertIs(is_certificate(used, ("kept", table)), True)

    def no(self, *table, used=KEPT):
        self.assertIs(is_certificate(used, ("kept", table)), False)

    def test_the_table(self):
        self.yes(FREE, LOOKED, TAKEN)
        self.yes(TAKEN, LOOKED, FREE)
        self.yes(TAKEN, FREE, LOOKED, FREE, FREE)
        self.assertTrue(is_certificate(thing=judge(KEPT).certificate, desk=KEPT))

    def test_without_one(self):
        self.no(FREE, LOOKED)
        self.no(FREE, TAKEN)
        self.no(LOOKED, TAKEN)
        self.no(TAKEN)
        self.no()

    def test_with_more_that_are_closed(self):
        more = ((0,), (("main", (("mark", 1),)),))
        gone = ((1,), (("gone", (("mark", 1),)),))
        self.assertFalse(judge(KEPT).has(gone))
        self.yes(gone, FREE, LOOKED, TAKEN)
        # No standing: there is no row for the group.
        self.no(more, FREE, LOOKED, TAKEN)
        open_one = ((1,), (("plain", (("mark", 1),)),))
        self.no(open_one, FREE, LOOKED, TAKEN)
        self.no(((2,), ()), FREE, LOOKED, TAKEN)
        for value in odd_values():
            self.no(FREE, LOOKED, TAKEN, value)

    def test_broken_desks_have_none(self):
        self.no(*possible(MARK), used=MARK)
        self.no(*possible(MARK), ((2,), ()), used=MARK)

    def test_pairs(self):
        used = desk(rules=Rules(AtMost(2, "a")), begins=[Counts(a=1)], limit=1, give="do give a -> a if other a < 2")
        zero, one, two = ((0,), ()), ((1,), ()), ((2,), ())
        self.yes(zero, one, two, used=used)
        for table in ((zero, one), (one, two), (one,), (zero, two)):
            self.no(*table, used=used)
        joined = desk(rules=Rules(AtMost(2, "a")), begins=[Counts(a=1)], limit=1, join="do join if a = 1 and other a = 1")
        self.yes(one, two, used=joined)
        self.no(one, used=joined)
        # Two owners with one standing of the table meet, too.
        both = desk(rules=Rules(AtMost(1, "a")), begins=[Counts(a=1)], limit=1, take="do take a -> a if a = 1")
        self.no(one, used=both)
        self.no(one, zero, used=both)

    def test_the_other_owner_breaks_a_rule(self):
        used = desk(rules=Rules(Exactly(1, "a"), AtMost(1, "b")), begins=[Counts(a=1)], limit=1,
                    take="do row b -> a then take a -> b", new="do new b if b = 0")
        table = [((1, 0), ()), ((1, 1), ())]
        self.no(*table, used=desk(rules=used.rules, begins=used.begins(), limit=1, new="do new b if b = 0",
                                  take="do take a -> b if b = 0"))
        self.yes(*table, used=desk(rules=used.rules, begins=used.begins(), limit=1, new="do new b if b = 0"))

    def test_other_forms(self):
        table = (FREE, LOOKED, TAKEN)
        for value in [*odd_values(), ["kept", table], ("kept", list(table)), ("kept", table, None), ("kept",), ("Kept", table),
                      ("broken", table), table, (table, "kept"), ("kept", None), ("kept", ("kept", table)), ("alike", table),
                      ("kept", ((FREE, LOOKED, TAKEN),)), (True, table)]:
            self.assertIs(is_certificate(KEPT, value), False)
        for standing in (((False,), ()), ((0,), []), [(0,), ()], ((0,), (["plain", (("mark", 1),)],)),
                         ((0,), (("plain", (("mark", True),)),)), ((0,), (("plain", [("mark", 1)]),))):
            self.no(FREE, LOOKED, TAKEN, standing)

    def test_long_tables(self):
        rules = Rules(AtMost(9, "a"), AtMost(9, "b"), AtMost(3, "c"))
        used = desk(rules=rules, limit=1, store=[0, 1, 2], na="do new a", give="do give a -> b", take="do take b -> c",
                    one="do one c -> a then new b", join="do join")
        table = [(rules.numbers(counts), ()) for counts in rules.each()]
        self.assertEqual(len(table), 400)
        self.assertRaises(TooMany, judge, used)
        self.yes(*table, used=used)
        self.yes(*table, *table[::-1], used=used)
        self.no(*table[:-1], used=used)
        self.no(*table[:200], *table[201:], used=used)


class TestWaysAndTraces(unittest.TestCase):

    def check(self, used, lines):
        """Look at the lines, and at many others that differ in a part."""
        tried = [lines, lines[:-1], lines[::-1], lines + lines[-1:], lines + lines[:1], lines[1:], list(lines)]
        for at, line in enumerate(lines):
            tried.append(lines[:at] + lines[at + 1:])
            tried.append(lines[:at] + (list(line),) + lines[at + 1:])
            for part in range(4):
                values = [None, True, False, 0, 1, -1, at, at + 1, len(lines), "begin", "alone", "home", "other", "", (), 0.0]
                values += [one[part] for one in lines]
                if part == 0:
                    numbers, groups = line[0]
                    values += [(numbers, ()), (list(numbers), groups), (numbers[:-1] + (numbers[-1] + 1,), groups),
                               (tuple(bool(one) for one in numbers), groups), (numbers, list(groups))]
                for value in values:
                    tried.append(lines[:at] + ((*line[:part], value, *line[part + 1:]),) + lines[at + 1:])
        ways = traces = 0
        for thing in tried:
            way, trace = is_way(used, thing), is_certificate(used, ("broken", thing))
            self.assertIs(way, is_lines(used, thing, "way"), thing)
            self.assertIs(trace, is_lines(used, thing, "trace"), thing)
            self.assertFalse(way and trace)
            ways, traces = ways + way, traces + trace
        return ways, traces

    def test_ways(self):
        way = way_to(MARK, ((1,), (("main", (("mark", 1),)),)))
        ways, traces = self.check(MARK, way)
        self.assertGreater(ways, 4)
        self.assertTrue(is_way(thing=way, desk=MARK))
        self.assertFalse(is_certificate(MARK, ("kept", way)))

    def test_traces(self):
        trace = judge(MARK).certificate[1]
        ways, traces = self.check(MARK, trace)
        self.assertGreater(traces, 0)
        self.assertFalse(is_way(MARK, trace))
        self.assertTrue(is_way(MARK, trace[:-1]))
        self.assertFalse(is_certificate(MARK, ("broken", trace[:-1])))
        self.assertFalse(is_certificate(MARK, ("kept", trace)))

    def test_partners(self):
        self.check(GIVE, judge(GIVE).certificate[1])
        for standing in possible(GIVE):
            self.check(GIVE, way_to(GIVE, standing))

    def test_one_line(self):
        for index, numbers in ((0, (0, 0)), (1, (1, 0))):
            self.assertTrue(is_way(GIVE, (((numbers, ()), "begin", index, None),)))
            self.assertFalse(is_way(GIVE, (((numbers, ()), "begin", 1 - index, None),)))
            self.assertFalse(is_certificate(GIVE, ("broken", (((numbers, ()), "begin", index, None),))))
        for index in (True, False, 2, -1, None, "0"):
            self.assertFalse(is_way(GIVE, (((1, 0), ()), "begin", index, None)))
            self.assertFalse(is_way(GIVE, ((((0, 0), ()), "begin", index, None),)))

    def test_lines_that_no_later_line_uses(self):
        zero, one = ((0, 0), ()), ((1, 0), ())
        lines = ((one, "begin", 1, None), (zero, "begin", 0, None), (zero, "begin", 0, None), (one, "other", 2, 0))
        self.assertTrue(is_way(GIVE, lines))
        self.assertTrue(is_way(GIVE, lines + (lines[0],)))
        self.assertTrue(is_way(GIVE, (lines[1], lines[1], lines[1])))

    def test_the_other_part_is_within_the_rules(self):
        # The home of the last line stays within the rules, the touched owner does not.
        used = desk(rules=Rules(AtMost(1, "a")), begins=[Counts(a=1)], limit=1, give="do give a -> a")
        one, zero, two = ((1,), ()), ((0,), ()), ((2,), ())
        begin = (one, "begin", 0, None)
        self.assertTrue(is_certificate(used, ("broken", (begin, (two, "other", 0, 0)))))
        self.assertFalse(is_way(used, (begin, (zero, "home", 0, 0))))
        self.assertFalse(is_certificate(used, ("broken", (begin, (zero, "home", 0, 0), (two, "other", 0, 0)))))
        # In the last line of a trace it may be anything.
        both = desk(rules=Rules(Exactly(1, "a")), begins=[Counts(a=1)], limit=1, give="do give a -> a")
        self.assertTrue(is_certificate(both, ("broken", (begin, (two, "other", 0, 0)))))
        self.assertTrue(is_certificate(both, ("broken", (begin, (zero, "home", 0, 0)))))

    def test_join(self):
        used = desk(rules=Rules(AtMost(2, "a")), begins=[Counts(a=1)], limit=1, join="do join")
        begin, two, three = (((1,), ()), "begin", 0, None), ((2,), ()), ((3,), ())
        self.assertTrue(is_way(used, (begin, (two, "home", 0, 0))))
        self.assertFalse(is_way(used, (begin, (two, "other", 0, 0))))
        self.assertFalse(is_way(used, (begin, (None, "other", 0, 0))))
        self.assertTrue(is_certificate(used, ("broken", (begin, (two, "home", 0, 0), (three, "home", 0, 1)))))

    def test_long_ways(self):
        used = desk(rules=Rules(AtMost(1, "a")), limit=1, up="do new a if a = 0", down="do one a -> gone")
        zero, one = ((0,), ()), ((1,), ())
        lines = [(zero, "begin", 0, None)]
        for at in range(700):
            lines.append((zero if at % 2 else one, "alone", at, None))
        self.assertTrue(is_way(used, tuple(lines)))
        self.assertEqual(length_of(tuple(lines)), 700)
        lines[650] = (zero, "alone", 650, None)
        self.assertFalse(is_way(used, tuple(lines)))

    def test_other_values(self):
        for value in odd_values():
            self.assertIs(is_way(MARK, value), False)
            self.assertIs(is_certificate(MARK, ("broken", value)), False)
            self.assertIs(is_certificate(MARK, (value, judge(MARK).certificate[1])), False)
            self.assertIs(is_way(MARK, (value,)), False)

    def test_small_desks(self):
        ways = traces = 0
        for seed in range(40):
            dice = random.Random(seed)
            used = small_desk(dice)
            try:
                verdict = judge(used)
            except TooMany:
                continue
            things = [way_to(used, dice.choice(sorted(possible(used))))]
            if not verdict and len(verdict.certificate[1]) < 20:
                things.append(verdict.certificate[1])
            for thing in things:
                found = self.check(used, thing)
                ways, traces = ways + found[0], traces + found[1]
        self.assertGreater(ways, 100)
        self.assertGreater(traces, 20)


if __name__ == "__main__":
    unittest.main()
