"""Histories: events, runs, and what breaks a rule (19, 24)."""

import unittest

from countsheld.counts import Counts
from countsheld.errors import BadHistory
from countsheld.histories import Run, play
from countsheld.rules import AtLeast, AtMost, Rules
from making import desk, rows
from odd import odd_values

MARK = desk(rules=Rules(AtMost(1, "main"), loose=["plain"]), limit=2, mark="look main = 0 / do row plain -> main")
LOOKED = [("owner", 0), ("come", 0, "plain"), ("come", 0, "plain"), ("call", "mark", 0, 0, None, ()),
          ("call", "mark", 0, 1, None, [])]
RULES = Rules(AtMost(2, "a"), AtMost(9, "b"), AtLeast(1, "a", "b"), loose=["x"])
DESK = desk(rules=RULES, begins=[Counts(a=1), Counts(b=2)], store=[1], new="do new a", give="look row a / do give a -> a",
            join="do join", take="do take b -> b", swap="hold / do one b -> x then new b", many="do new b then new b")


class TestRuns(unittest.TestCase):

    def test_two_calls_for_two_rows(self):
        run = play(MARK, LOOKED + [("go", 0, None, ()), ("go", 1, None, ())])
        self.assertIsInstance(run, Run)
        self.assertEqual((run.breach, run.refused, len(run)), (6, (), 7))
        self.assertEqual(run.counts_after(6), [(0, Counts(main=2))])
        self.assertEqual(run.counts_after(at=5), [(0, Counts(main=1))])
        self.assertEqual(run.book.broken(), [(0, 0)])

    def test_two_calls_for_one_row(self):
        events = LOOKED[:4] + [("call", "mark", 0, 0, None, ()), ("go", 0, None, ()), ("go", 1, None, ())]
        run = play(MARK, events)
        self.assertEqual((run.breach, run.refused), (None, ((6, 1, ("part", 0)),)))

    def test_lists_and_tuples(self):
        events = LOOKED + [("go", 1, None, [])]
        for history in (events, tuple(events)):
            run = play(desk=MARK, history=history)
            self.assertEqual((len(run), run.breach), (6, None))
            self.assertEqual(run.counts_after(5), [(0, Counts(main=1))])

    def test_no_events(self):
        for history in ([], ()):
            run = play(MARK, history)
            self.assertEqual((len(run), run.breach, run.refused, run.book.owners()), (0, None, (), []))
            self.assertIs(run.refused.__class__, tuple)

    def test_all_events(self):
        history = [("owner", 1), ("owner", 0), ("come", 1, "x"), ("call", "give", 1, 0, None, ()), ("go", 0, 0, ()),
                   ("leave", 1, 1), ("owner", 0), ("call", "join", 0, None, 2, ()), ("call", "swap", 0, None, None, [7]),
                   ("go", 2, None, (1,))]
        history += [("come", 1, "x"), ("leave", 1, 2), ("come", 1, "x")]
        run = play(DESK, history)
        self.assertEqual((rows(run.book, 0), rows(run.book, 1)), ("0b 1x 2a 3a 4b", "3x"))
        self.assertEqual((run.refused, run.book.owners()), ((), [0, 1]))
        counts = [Counts(b=2), Counts(a=1)]
        self.assertEqual(run.counts_after(0), [(0, counts[0])])
        self.assertEqual(run.counts_after(3), [(0, counts[0]), (1, counts[1])])
        self.assertEqual(run.counts_after(4), [(0, Counts(a=1, b=2)), (1, Counts())])
        self.assertEqual(run.counts_after(6), [(0, Counts(a=1, b=2)), (1, Counts()), (2, Counts(a=1))])
        self.assertEqual(run.counts_after(7), [(0, Counts(a=2, b=2)), (1, Counts())])
        self.assertEqual(run.counts_after(9), [(0, Counts(a=2, b=2)), (1, Counts())])
        self.assertEqual(run.breach, 4)

    def test_refused(self):
        history = [("owner", 1), ("owner", 0), ("call", "take", 0, None, 1, ()), ("call", "give", 0, 0, None, ())]
        history += [("call", "many", 0, None, None, ())] * 4 + [("call", "swap", 1, None, None, ()), ("go", 6, None, ())]
        run = play(DESK, history)
        self.assertEqual(run.refused, ((2, 0, ("part", 0)), (3, 0, ("test", 0)), (7, 0, ("rule", 1)), (9, 1, ("part", 0))))
        self.assertEqual((len(run), run.breach), (10, None))
        self.assertEqual(run.counts_after(9), [(0, Counts(b=8)), (1, Counts(a=1))])

    def test_the_first_event_that_breaks_a_rule(self):
        new = ("call", "new", 0, None, None, ())
        for history, breach in (([("owner", 0), new], None), ([("owner", 0), new, new], 2),
                                ([("owner", 0), new, new, new, ("owner", 0), ("come", 0, "x")], 2)):
            self.assertEqual(play(DESK, history).breach, breach)

    def test_of_the_touched_owner(self):
        history = [("owner", 0), ("owner", 0), ("call", "new", 1, None, None, ()), ("call", "new", 0, None, None, ()),
                   ("call", "give", 0, 0, None, ()), ("go", 2, 1, ()), ("owner", 0)]
        run = play(DESK, history)
        self.assertEqual(run.breach, 5)
        self.assertEqual(run.book.broken(), [(1, 0)])

    def test_of_the_home_alone_behind_a_join(self):
        history = [("owner", 0), ("owner", 1), ("call", "join", 0, None, 1, ())]
        self.assertIsNone(play(DESK, history).breach)
        history = [("owner", 0), ("owner", 0), ("owner", 0), ("call", "join", 0, None, 1, ()),
                   ("call", "join", 2, None, 0, ())]
        self.assertEqual(play(DESK, history).breach, 4)

    def test_the_book_is_changed_afterwards(self):
        history = [("owner", 0), ("call", "new", 0, None, None, ())]
        run, second = play(DESK, history), play(DESK, history)
        run.book.begin("new", 0)
        run.book.add_owner()
        self.assertEqual((run.breach, len(run), run.counts_after(1)), (None, 2, [(0, Counts(a=2))]))
        run.book.begin("join", 1, other=0)
        self.assertEqual(run.counts_after(1), [(0, Counts(a=2))])
        self.assertEqual((second.book.owners(), rows(second.book, 0)), ([0], "0a 1a"))

    def test_returned_lists_and_counts_are_new(self):
        run = play(DESK, [("owner", 0)])
        counts = run.counts_after(0)
        counts[0][1]["a"] = 9
        counts.clear()
        self.assertEqual(run.counts_after(0), [(0, Counts(a=1))])

    def test_a_passed_history_is_not_changed(self):
        picks = [1]
        history = [("owner", 1), ("call", "swap", 0, None, None, ()), ("go", 0, None, picks)]
        before = list(history)
        run = play(DESK, history)
        self.assertEqual((history, picks), (before, [1]))
        history.clear()
        self.assertEqual((len(run), rows(run.book, 0)), (3, "0b 1x 2b"))


class TestWrongHistories(unittest.TestCase):

    def bad(self, wanted, history, desk=DESK):
        with self.assertRaises(BadHistory) as caught:
            play(desk, history)
        self.assertEqual(caught.exception.at, wanted)

    def test_no_list_and_no_tuple(self):
        for value in odd_values() + [0, "owner", {}, Counts(a=1), DESK]:
            if not isinstance(value, (list, tuple)):
                self.bad(-1, value)

    def test_how_many(self):
        history = [("owner", 0)] + [("call", "new", 0, None, None, ())] * 3999
        run = play(DESK, history)
        self.assertEqual((len(run), run.breach, run.counts_after(3999)), (4000, 2, [(0, Counts(a=4000))]))
        self.bad(-1, history + [("owner", 0)])
        self.bad(-1, tuple(history + ["no event"]))
        self.bad(-1, [None] * 4001)
        self.bad(0, [None] * 4000)
        self.assertEqual(len(play(DESK, [("owner", 1)] * 4000).counts_after(3999)), 4000)

    def test_what_is_no_event(self):
        wrong = odd_values() + [
            0, "owner", ("owner",), ("owner", 0, 0), ["owner", 0], ("Owner", 0), ("begin", 0), (("owner", 0),),
            ("come", 0), ("come", 0, "x", "x"), ["come", 0, "x"], ("leave", 0), ("leave", 0, 2, 0), ["leave", 0, 2],
            ("call", "new", 0, None, None), ("call", "new", 0, None, None, (), ()), ["call", "new", 0, None, None, ()],
            ("call", "new", 0, None, ()), ("go", 0, None), ("go", 0, None, (), ()), ["go", 0, None, ()], ("go", 0, ()),
            (True, 0), (None, 0), (0, 0), (("owner",), 0), (["owner"], 0), ("", 0),
        ]
        for picks in (None, True, 0, "", "1", Counts(), {}):
            wrong += [("call", "new", 0, None, None, picks), ("go", 0, None, picks)]
        for event in wrong:
            self.bad(3, [("owner", 1), ("come", 0, "x"), ("call", "swap", 0, None, None, ()), event, "no event"])

    def test_events_that_are_not_possible(self):
        before = [("owner", 1), ("come", 0, "x"), ("call", "swap", 0, None, None, ()), ("owner", 0), ("owner", 0),
                  ("call", "join", 1, None, 2, ()), ("call", "give", 1, 0, None, ())]
        wrong = [
            ("owner", 2), ("owner", True), ("owner", None), ("owner", -1), ("come", 2, "x"), ("come", True, "x"),
            ("come", 0, "a"), ("come", 0, None), ("come", 0, ["x"]), ("leave", 3, 2), ("leave", 0, 0), ("leave", 0, True),
            ("leave", 0, 9), ("leave", 0, [2]), ("call", "none", 0, None, None, ()), ("call", None, 0, None, None, ()),
            ("call", ["new"], 0, None, None, ()), ("call", "new", 2, None, None, ()), ("call", "new", True, None, None, ()),
            ("call", "new", 0, 0, None, ()), ("call", "new", 0, None, 1, ()), ("call", "give", 0, None, None, ()),
            ("call", "give", 0, True, None, ()), ("call", "join", 0, None, None, ()), ("call", "join", 0, None, 0, ()),
            ("call", "join", 0, None, 2, ()), ("call", "take", 1, None, 0, (7,)), ("call", "swap", 0, None, None, ()),
            ("go", 3, None, ()), ("go", True, None, ()), ("go", None, None, ()), ("go", 1, None, ()), ("go", 0, 1, ()),
            ("go", 0, None, (2,)), ("go", 0, None, [True]), ("go", 2, None, ()), ("go", 2, 1, ()), ("go", 2, 2, ()),
            ("go", [0], None, ()),
        ]
        self.assertEqual(len(play(DESK, before)), 7)
        for event in wrong:
            self.bad(7, before + [event])
        full = [("owner", 0)] + [("call", "give", 0, 0, None, ())] * 3
        self.bad(4, full + [("call", "new", 0, None, None, ())])
        named = [("owner", 0), ("come", 0, "plain"), ("call", "mark", 0, 0, None, ()), ("leave", 0, 0)]
        self.bad(3, named, MARK)

    def test_the_first_one(self):
        self.bad(0, ["no", "no"])
        self.bad(1, [("owner", 0), ("owner", 5), "no"])
        self.bad(2, [("owner", 0), ("come", 0, "x"), ("come", 1, "x"), ("owner", 0)])
