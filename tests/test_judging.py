"""Verdicts, possible standings, ways to them, and the farthest totals (3, 24, 25, 27, 30)."""

import inspect
import random
import unittest

import naive
from countsheld.books import Book
from countsheld.counts import Counts
from countsheld.errors import NoWay, TooMany
from countsheld.judging import Verdict, farthest, judge, possible, way_to
from countsheld.looker import is_certificate, is_way
from countsheld.rules import AtLeast, AtMost, Between, Exactly, Rules
from countsheld.standings import alone, at_rest, meeting, standing_of
from countsheld.histories import play
from countsheld.unfolding import length_of, size_of, unfold
from making import desk
from odd import odd_values
from replay import do_event
from small import small_desk
from test_model import an_event

MARK = desk(rules=Rules(AtMost(1, "main"), loose=["plain"]), limit=2, mark="look main = 0 / do row plain -> main")
ADMINS = Rules(Between(1, 3, "admin"), loose=["user"])
CUBE = Rules(AtMost(4, "a"), AtMost(3, "b"), AtMost(5, "c"))
NEW = {"na": "do new a", "nb": "do new b", "nc": "do new c"}


def cube(store, **more):
    """Return a desk with 120 possible standings, and some more through more doors."""
    return desk(rules=CUBE, limit=1, store=store, **NEW, **more)


class TestVerdicts(unittest.TestCase):

    def kept(self, used, many):
        verdict = judge(used)
        self.assertIsInstance(verdict, Verdict)
        self.assertIs(bool(verdict), True)
        self.assertEqual((len(verdict), verdict.certificate[0], len(verdict.certificate)), (0, "kept", 2))
        table = verdict.certificate[1]
        self.assertIs(table.__class__, tuple)
        self.assertEqual((len(table), len(set(table))), (many, many))
        self.assertEqual(set(table), set(possible(used)))
        self.assertTrue(is_certificate(used, verdict.certificate))
        return table

    def broken(self, used, length, *last):
        verdict = judge(used)
        self.assertIs(bool(verdict), False)
        self.assertEqual((len(verdict), verdict.certificate[0], len(verdict.certificate)), (length, "broken", 2))
        trace = verdict.certificate[1]
        self.assertIs(trace.__class__, tuple)
        self.assertEqual(length_of(trace), length)
        self.assertIn(trace[-1][0], last)
        self.assertTrue(is_certificate(used, verdict.certificate))
        self.assertFalse(is_way(used, trace))
        return trace

    def test_look_first(self):
        for limit, length in ((2, 4), (3, 4)):
            self.broken(MARK.varied(limit=limit), length, ((2,), ()), ((2,), (("plain", (("mark", 1),)),)))
        self.assertEqual(set(self.kept(MARK.varied(limit=1), 3)), {
            ((0,), ()), ((0,), (("plain", (("mark", 1),)),)), ((1,), ())})

    def test_mends_of_the_example(self):
        rules = Rules(AtMost(1, "main"), loose=["plain"])
        held = desk(rules=rules, limit=3, mark="hold / look main = 0 / do row plain -> main")
        self.kept(held, len(set(naive.Search(held, alone, meeting).found)))
        self.assertTrue(judge(desk(rules=rules, limit=3, mark="look main = 0 / do row plain -> main if main = 0")))
        self.assertTrue(judge(MARK.varied(limit=3, store=[0])))
        self.assertFalse(judge(desk=desk(rules=rules, limit=3, mark="look main = 0 / hold / do row plain -> main")))

    def test_the_last_admin(self):
        lines = "look admin > 1 / do row admin -> user"
        for limit in (2, 3):
            used = desk(rules=ADMINS, begins=[Counts(admin=2)], limit=limit, quit=lines)
            self.broken(used, 4, ((0,), ()))
        # A call may name a user, too, and is refused later.
        self.kept(desk(rules=ADMINS, begins=[Counts(admin=2)], limit=1, quit=lines), 4)
        add = "look admin < 3 / do row user -> admin"
        both = desk(rules=ADMINS, begins=[Counts(admin=1), Counts(admin=3)], limit=2, add=add, quit=lines)
        self.broken(both, 6, ((4,), ()), ((0,), ()))

    def test_doors_that_touch(self):
        rules = Rules(AtMost(2, "a"))
        self.broken(desk(rules=rules, begins=[Counts(a=1)], limit=1, give="do give a -> a"), 2, ((3,), ()))
        self.kept(desk(rules=rules, begins=[Counts(a=1)], limit=1, give="do give a -> a if other a < 2"), 3)
        self.broken(desk(rules=rules, begins=[Counts(a=2)], limit=1, join="do join"), 1, ((4,), ()))
        # The other owner has joined one before.
        self.broken(desk(rules=rules, begins=[Counts(a=1)], limit=1, join="do join"), 1, ((3,), ()))
        self.kept(desk(rules=rules, begins=[Counts(a=2)], limit=1, join="do join if other a = 0"), 1)
        taken = desk(rules=Rules(Exactly(1, "a")), begins=[Counts(a=1)], limit=1, take="do row a -> gone then take a -> a")
        # The touched owner breaks the rule, with one event at it.
        self.broken(taken, 1, ((0,), ()))

    def test_partners_go_a_long_way(self):
        used = desk(rules=Rules(AtMost(2, "a"), AtMost(2, "b")), limit=1, up="do new a if a < 2",
                    give="do give a -> b if a = 2 and other b < 3")
        verdict = judge(used)
        # Three partners with two rows each are needed, and three events at the owner alone.
        self.assertEqual((len(verdict), verdict.certificate[1][-1][0]), (3, ((0, 3), ())))
        self.assertTrue(is_certificate(used, verdict.certificate))

    def test_partners_of_partners(self):
        used = desk(rules=Rules(AtMost(1, "a"), AtMost(1, "b"), AtMost(1, "c"), AtMost(0, "d")), limit=1, up="do new a if a = 0",
                    ab="do give a -> b if other b = 0", bc="do give b -> c if other c = 0", cd="do give c -> d")
        trace = self.broken(used, 1, ((0, 0, 0, 1), ()))
        self.assertEqual(size_of(trace), 8)
        history, owner = unfold(used, trace)
        self.assertEqual((play(used, history).breach, len(history)), (len(history) - 1, size_of(trace)))

    def test_effects_that_come_about_late(self):
        # Rows of `a` are given away only where there are three of `c`, and it is the only way to some standings.
        used = desk(rules=Rules(AtMost(1, "a"), AtMost(2, "b"), AtMost(3, "c")), limit=1, ub="do new b if a = 0 and b < 2",
                    uc="do new c if a = 0 and c < 3", ua="do new a if a = 0 and c = 3", give="do give a -> a if other a = 0")
        self.kept(used, 24)
        search = naive.Search(used, alone, meeting)
        self.assertEqual(set(possible(used)), search.found)

    def test_calls_that_wait_for_an_owner_that_is_held(self):
        named = {"rules": Rules(Between(1, 2, "a")), "begins": [Counts(a=2), Counts(a=1)], "limit": 1,
                 "drop": "hold / look a = 2 / do one a -> gone"}
        take = "do take a -> a if a = 1 and other a = 2"
        self.assertTrue(judge(desk(take="hold / " + take, **named)))
        self.assertFalse(judge(desk(take="look a = 1 / " + take, **named)))
        self.assertFalse(judge(desk(take=take + " / hold", **named)))

    def test_the_store(self):
        used = desk(rules=Rules(AtMost(1, "a"), AtMost(1, "b")), limit=1, store=[0], give="do give a -> b", new="do new a")
        self.broken(used, 2, ((0, 2), ()), ((1, 2), ()))
        self.kept(used.varied(store=[0, 1]), 4)
        self.kept(used.varied(store=[1, 0], limit=3), 4)

    def test_events_that_wait_do_not_happen(self):
        rules = Rules(AtMost(1, "a"))
        lines = "hold / look a = 0 / do take a -> a"
        begins = [Counts(a=1), Counts()]
        used = desk(rules=rules, begins=begins, limit=2, take=lines)
        self.assertTrue(judge(used))
        self.assertFalse(judge(desk(rules=rules, begins=begins, limit=2, take="look a = 0 / hold / do take a -> a")))

    def test_has(self):
        for used in (MARK, MARK.varied(limit=1)):
            verdict = judge(used)
            for standing in possible(used):
                self.assertIs(verdict.has(standing), True)
                self.assertIs(verdict.has(standing=standing), True)
            for value in [*odd_values(), ((2,), ()), ((False,), ()), ((0.0,), ()), ((0,), []), [(0,), ()], ((0,), None)]:
                self.assertIs(verdict.has(value), False, value)
        self.assertFalse(judge(MARK.varied(limit=1)).has(((0,), (("plain", (("mark", True),)),))))


class TestPossible(unittest.TestCase):

    def test_a_generator(self):
        self.assertTrue(inspect.isgeneratorfunction(possible))
        self.assertEqual(len(list(possible(desk=MARK))), 7)
        found = possible(cube([0, 1, 2], wait="look a = 0 and b = 0 and c = 0 / do new a"))
        with self.assertRaises(TooMany) as caught:
            next(found)
        self.assertEqual(caught.exception.what, "standings")

    def test_too_many(self):
        least = cube([0, 1, 2])
        self.assertEqual(len(judge(least).certificate[1]), 120)
        self.assertEqual(len(list(possible(least))), 120)
        self.assertEqual(len(way_to(least, ((4, 3, 5), ()))), 13)
        self.assertEqual(farthest(least), [(0, 4), (0, 3), (0, 5)])
        # Also where a rule is soon broken, and the standing is none.
        for store in ([0, 1, 2], [0]):
            more = cube(store, wait="look a = 0 and b = 0 and c = 0 / do new a")
            for act in (lambda: judge(more), lambda: list(possible(more)), lambda: way_to(more, None), lambda: farthest(more)):
                with self.assertRaises(TooMany) as caught:
                    act()
                self.assertEqual(caught.exception.what, "standings")

    def test_all_histories_have_possible_standings(self):
        many = 0
        for seed in range(60):
            dice = random.Random(seed)
            used = small_desk(dice)
            try:
                verdict = judge(used)
            except TooMany:
                continue
            for _ in range(4):
                many += self.one_history(dice, used, verdict)
        self.assertGreater(many, 1000)

    def one_history(self, dice, used, verdict):
        book, model, many = Book(used), naive.model_of(used), 0
        for _ in range(40):
            event = an_event(dice, model)
            if naive.happened(model, event) is None:
                continue
            model.happen(event)
            do_event(book, event)
            if book.broken():
                self.assertFalse(verdict)
                return many
            for owner in book.owners():
                self.assertTrue(verdict.has(standing_of(book, owner)))
                many += 1
        return many


class TestWays(unittest.TestCase):

    def test_no_way(self):
        for value in [*odd_values(), ((2,), ()), ((0,), (("mark", ()),)), ((False,), ())]:
            for used in (MARK, MARK.varied(store=[0])):
                with self.assertRaises(NoWay) as caught:
                    way_to(used, value)
                self.assertIs(caught.exception.standing, value)

    def test_ways(self):
        self.assertEqual(way_to(MARK, ((0,), ())), ((((0,), ()), "begin", 0, None),))
        begins = [Counts(a=1), Counts(a=2), Counts(a=1)]
        used = desk(rules=Rules(AtMost(2, "a")), begins=begins, limit=1, give="do give a -> a if other a < 2")
        self.assertEqual(way_to(used, ((2,), ())), ((((2,), ()), "begin", 1, None),))
        self.assertEqual(length_of(way_to(desk=used, standing=((0,), ()))), 1)
        self.assertEqual(way_to(used, at_rest(used, Counts(a=1)))[-1][2], 0)


class TestFarthest(unittest.TestCase):

    def test_calls_that_go_on(self):
        self.assertEqual(farthest(MARK), [(0, 2)])
        self.assertEqual(farthest(desk=MARK.varied(limit=3)), [(0, 3)])
        self.assertEqual(farthest(MARK.varied(limit=1)), [(0, 1)])
        self.assertEqual(farthest(MARK.varied(limit=3, store=[0])), [(0, 1)])

    def test_none_begins(self):
        used = desk(rules=Rules(AtMost(1, "a"), AtLeast(1, "a")), begins=[Counts(a=1)], limit=1, new="do new a")
        self.assertEqual(farthest(used), [(1, 2), (1, 2)])

    def test_the_same_owner_goes_on_and_touches_others(self):
        rules = Rules(AtMost(1, "a"), AtMost(3, "b"))
        used = desk(rules=rules, begins=[Counts(a=1, b=2)], limit=1, late="do new a / do take b -> a / do all a -> gone")
        self.assertEqual(farthest(used), [(0, 3), (2, 2)])
        # The touched owner's totals do not count, nor another line that touches.
        used = desk(rules=rules, begins=[Counts(a=1, b=2)], limit=1, late="do new a / do join")
        self.assertEqual(farthest(used), [(1, 3), (2, 4)])
        used = desk(rules=rules, begins=[Counts(a=1, b=2)], limit=1, late="do new a", give="look a > 1 / do give a -> a")
        self.assertEqual(farthest(used), [(1, 2), (2, 2)])

    def test_the_touched_owner_whose_rule_breaks(self):
        used = desk(rules=Rules(AtMost(1, "a"), AtMost(2, "b")), begins=[Counts(a=1)], limit=2, give="do give a -> a",
                    slow="look a = 1 / do new b then new b")
        # Who gives has no row left only behind the event, and breaks no rule; who gets may go on twice.
        self.assertEqual(farthest(used), [(1, 2), (0, 6)])

    def test_too_many(self):
        self.assertEqual(farthest(cube([0, 2])), [(0, 4), (0, 4), (0, 5)])
        more = cube([0, 2], two="do new b then new b if b = 3 and a = 0 and c = 0")
        self.assertEqual(len(judge(more)), 4)
        with self.assertRaises(TooMany) as caught:
            farthest(more)
        self.assertEqual(caught.exception.what, "standings")


class TestAgainstSearches(unittest.TestCase):

    def check(self, used, one, two):
        search = naive.Search(used, one, two)
        try:
            verdict = judge(used)
        except TooMany:
            self.assertTrue(search.too_many)
            return None
        shown = str(used)
        self.assertFalse(search.too_many, shown)
        self.assertEqual(sorted(possible(used)), sorted(search.found), shown)
        breaks, lengths = search.breaks(), search.lengths()
        sizes = search.sizes_of_shortest(lengths)
        self.assertEqual(bool(verdict), not breaks, shown)
        self.assertTrue(is_certificate(used, verdict.certificate))
        if breaks:
            self.assertEqual(len(verdict), 1 + min(lengths[before] for before, _ in breaks), shown)
            self.assertEqual(length_of(verdict.certificate[1]), len(verdict))
            # Not promised: none of the least length is smaller.
            self.assertEqual(size_of(verdict.certificate[1]), search.size_of_trace(lengths, sizes), shown)
        else:
            self.assertEqual(sorted(verdict.certificate[1]), sorted(search.found))
        for standing in search.found:
            way = way_to(used, standing)
            self.assertTrue(is_way(used, way))
            self.assertEqual((way[-1][0], length_of(way)), (standing, lengths[standing]), shown)
            self.assertEqual(size_of(way), sizes[standing], shown)
        self.check_farthest(used, search, search.late(one, two))
        return len(verdict)

    def check_farthest(self, used, search, late):
        if len(late) + len(search.found) > 150:
            self.assertRaises(TooMany, farthest, used)
            return
        places = [dict(zip(used.rules.kinds, numbers)) for numbers, _ in [*late, *search.found]]
        totals = [[sum(place[kind] for kind in rule.kinds) for place in places] for rule in used.rules.listed]
        self.assertEqual(farthest(used), [(min(some), max(some)) for some in totals], str(used))

    def test_many_desks(self):
        # Seeds of desks with few standings.
        lengths = [self.check(small_desk(random.Random(seed)), alone, meeting) for seed in range(60)]
        self.assertGreater(sum(length == 0 for length in lengths), 20)
        self.assertGreater(sum(bool(length) for length in lengths), 15)

    def test_desks_in_the_model(self):
        # Nothing here comes from the package's own standings.
        found = []
        for seed in range(200, 230):
            used = small_desk(random.Random(seed), 2, 2)
            if used.limit == 1:
                found.append(self.check(used, naive.alone, naive.meeting))
        self.assertGreater(len(found), 8)


if __name__ == "__main__":
    unittest.main()
