"""Desks: what they are made of, which doors fit, and what is exchanged (14, 15)."""

import itertools
import unittest

from countsheld.counts import Counts
from countsheld.desks import Desk
from countsheld.doors import Door
from countsheld.errors import BadDesk, NoDoor, Unfit
from countsheld.rules import AtLeast, AtMost, Exactly, Rules
from odd import odd_values

RULES = Rules(Exactly(1, "main"), AtMost(2, "spare"), loose=["plain", "gray"])
MARK = Door("mark", "look main = 0", "do row plain -> main")
MAKE = Door("make", "do new plain")
BEGIN = Counts(main=1)


class TestMaking(unittest.TestCase):

    def what(self, wanted, *arguments, **named):
        with self.assertRaises(BadDesk) as caught:
            Desk(*arguments, **named)
        self.assertEqual(caught.exception.what, wanted)

    def test_attributes(self):
        desk = Desk(RULES, [MARK, MAKE], [BEGIN, Counts(main=1, spare=2)], limit=3, store=[1, 0])
        self.assertEqual((desk.rules, desk.doors, desk.limit, desk.store), (RULES, (MARK, MAKE), 3, (0, 1)))
        self.assertEqual(desk.begins(), [BEGIN, Counts(main=1, spare=2)])
        self.assertIs(desk.doors.__class__, tuple)
        self.assertIs(desk.store.__class__, tuple)

    def test_without_limit_and_store(self):
        desk = Desk(RULES, [MARK], [BEGIN])
        self.assertEqual((desk.limit, desk.store), (1, ()))
        desk = Desk(rules=RULES, doors=[MARK], begins=[BEGIN], store=(), limit=1)
        self.assertEqual((desk.limit, desk.store), (1, ()))

    def test_arguments_are_copied_and_not_changed(self):
        doors, begin, store = [MARK], Counts(main=1), [1, 0]
        begins = [begin]
        desk = Desk(RULES, doors, begins, store=store)
        self.assertEqual((doors, begins, store), ([MARK], [BEGIN], [1, 0]))
        doors.append(MAKE)
        begins.append(Counts(main=1, spare=1))
        begin["main"] = 7
        begin["other"] = 1
        store.clear()
        self.assertEqual((desk.doors, desk.begins(), desk.store), ((MARK,), [BEGIN], (0, 1)))

    def test_returned_begins_are_new(self):
        desk = Desk(RULES, [MARK], [BEGIN])
        begins = desk.begins()
        begins[0]["main"] = 0
        begins.clear()
        self.assertEqual(desk.begins(), [BEGIN])
        self.assertIsNot(desk.begins()[0], desk.begins()[0])

    def test_doors(self):
        self.what("doors", RULES, [], [BEGIN])
        for many in range(1, 7):
            doors = [Door("d" + "xyzuvw"[at], "do new plain") for at in range(many)]
            self.assertEqual(len(Desk(RULES, doors, [BEGIN])), many)
        self.what("doors", RULES, [Door("d" + letter, "do new plain") for letter in "abcdefg"], [BEGIN])
        self.what("doors", RULES, [MARK, MARK], [BEGIN])
        self.what("doors", RULES, [MARK, MAKE, Door("mark", "do new main")], [BEGIN])

    def test_begins(self):
        self.what("begins", RULES, [MARK], [])
        for many in range(1, 5):
            self.assertEqual(len(Desk(RULES, [MARK], [BEGIN] * many).begins()), many)
        self.what("begins", RULES, [MARK], [BEGIN] * 5)
        for begin in (Counts(), Counts(main=2), Counts(main=1, spare=3), Counts(main=1, spare=-1),
                      Counts(main=1, plain=1), Counts(main=1, other=1), Counts(main=1, plain=-1)):
            self.what("begins", RULES, [MARK], [begin])
            self.what("begins", RULES, [MARK], [BEGIN, BEGIN, BEGIN, begin])
        begin = Counts(main=1, plain=1)
        begin["plain"] = 0
        self.assertEqual(Desk(RULES, [MARK], [begin]).begins(), [BEGIN])

    def test_limit(self):
        for limit in (1, 2, 3):
            self.assertEqual(Desk(RULES, [MARK], [BEGIN], limit=limit).limit, limit)
        for limit in odd_values() + [0, 4, -1, 10 ** 39, (1,)]:
            self.what("limit", RULES, [MARK], [BEGIN], limit=limit)

    def test_store(self):
        for store in ([], (), [0], (1,), [1, 0], (0, 1)):
            self.assertEqual(Desk(RULES, [MARK], [BEGIN], store=store).store, tuple(sorted(store)))
        for store in ([2], [-1], [0, 0], (1, 1), [0, 1, 0], [True], [0, True], [False], (0, None), ["0"], [[0]],
                      [(0,)], [10 ** 39], [0, 1, 2], [0, "1"], [Counts()], list(range(3000))):
            self.what("store", RULES, [MARK], [BEGIN], store=store)
        for store in odd_values() + [0, 1, "01", {0: 1}]:
            if store not in ([], (), [1], (1,)):
                self.what("store", RULES, [MARK], [BEGIN], store=store)

    def test_order_of_the_errors(self):
        unfit = Door("bad", "do new foreign")
        self.what("doors", RULES, [], [], limit=0, store=0)
        self.what("doors", RULES, [unfit, unfit], [], limit=0, store=0)
        with self.assertRaises(Unfit):
            Desk(RULES, [MARK, unfit], [], limit=0, store=0)
        self.what("begins", RULES, [MARK], [], limit=True, store=0)
        self.what("limit", RULES, [MARK], [BEGIN], limit=True, store=[True])
        self.what("store", RULES, [MARK], [BEGIN], limit=1, store=[True])


class TestFitting(unittest.TestCase):

    def fits(self, *lines):
        """Return the index of the first line that does not fit, or None."""
        try:
            Desk(RULES, [MARK, Door("door", *lines), Door("zbad", "do new nothing")], [BEGIN])
        except Unfit as error:
            if error.door == "zbad":
                self.assertEqual(error.line, 0)
                return None
            self.assertEqual(error.door, "door")
            return error.line
        self.fail(lines)

    def test_all_kinds_are_ruled_or_loose(self):
        for kind in ("main", "spare", "plain", "gray"):
            for line in (f"look row {kind}", f"do row {kind} -> {kind}", f"do one main -> {kind}",
                         f"do all main -> {kind}", f"do new {kind}", f"do give {kind} -> {kind}",
                         f"do take {kind} -> {kind}", f"do one {kind} -> gone", f"do new main if row {kind}"):
                self.assertIsNone(self.fits(line, "do new main"), line)
        for line in ("look row foreign", "look row main or foreign", "do row foreign -> gone", "do row main or foreign -> main",
                     "do row main -> foreign", "do one foreign -> main", "do one main -> foreign", "do all main -> foreign",
                     "do all foreign -> main", "do new foreign", "do give foreign -> main", "do give main -> foreign",
                     "do take foreign -> main", "do take main -> foreign", "look foreign = 0", "look main + foreign = 0",
                     "do join if other foreign = 0", "do new main then new foreign", "do new main if row foreign"):
            self.assertEqual(self.fits(line, "do new main"), 0, line)
            self.assertEqual(self.fits("do new main", line), 1, line)

    def test_loose_kinds_in_a_sum(self):
        for line in ("look plain = 0", "look main + plain = 0", "look main = 0 and gray >= 0",
                     "do new main if plain = 0", "do join if other plain = 0", "do join if other main + gray = 0"):
            self.assertEqual(self.fits(line, "do new main"), 0, line)
            self.assertEqual(self.fits("do new main", line), 1, line)

    def test_loose_kinds_behind_all(self):
        self.assertEqual(self.fits("do all plain -> main"), 0)
        self.assertEqual(self.fits("do new main then all gray -> gone"), 0)
        self.assertIsNone(self.fits("do all main -> plain"))
        self.assertIsNone(self.fits("do all main -> gone then all spare -> gray"))

    def test_loose_kinds_behind_one(self):
        self.assertIsNone(self.fits("do one plain -> main"))
        self.assertIsNone(self.fits("do one plain -> gone then one main -> plain"))
        self.assertEqual(self.fits("do new main then one plain -> main"), 0)
        self.assertEqual(self.fits("do one gray -> main then one plain -> main"), 0)
        self.assertEqual(self.fits("do new main", "do all main -> gone then one gray -> gone"), 1)
        self.assertIsNone(self.fits("do new plain then one main -> plain then take plain -> gray"))

    def test_first_door_and_its_first_line(self):
        doors = [MARK, Door("second", "look row main", "do new foreign", "do new none"), Door("aaa", "do new foreign")]
        with self.assertRaises(Unfit) as caught:
            Desk(RULES, doors, [BEGIN])
        self.assertEqual((caught.exception.door, caught.exception.line), ("second", 1))


class TestSaying(unittest.TestCase):

    def setUp(self):
        self.desk = Desk(RULES, [MARK, MAKE], [BEGIN])

    def test_doors_by_name(self):
        self.assertEqual((self.desk["mark"], self.desk["make"]), (MARK, MAKE))
        for name in odd_values() + ["other", "mar", 0, 1, ("mark",), ["mark"], MARK]:
            with self.assertRaises(NoDoor) as caught:
                self.desk[name]
            self.assertIs(caught.exception.name, name)
            self.assertIs(name in self.desk, False)
        self.assertIs("mark" in self.desk, True)
        self.assertIs("make" in self.desk, True)

    def test_len_and_iteration(self):
        self.assertEqual(len(self.desk), 2)
        self.assertEqual(list(self.desk), [MARK, MAKE])
        self.assertEqual([door.name for door in self.desk], ["mark", "make"])
        pairs = [(one.name, two.name) for one in self.desk for two in self.desk]
        self.assertEqual(pairs, list(itertools.product(("mark", "make"), repeat=2)))

    def test_equal(self):
        other = Rules(Exactly(1, "main"), AtMost(2, "spare"), loose=["plain"])
        made = Door("make", "do new spare")
        desks = [
            Desk(RULES, [MARK, MAKE], [BEGIN]), Desk(RULES, [MAKE, MARK], [BEGIN]), Desk(RULES, [MARK], [BEGIN]),
            Desk(RULES, [MARK, made], [BEGIN]), Desk(RULES, [MARK, MAKE], [BEGIN, BEGIN]),
            Desk(RULES, [MARK, MAKE], [BEGIN, BEGIN + Counts(spare=1)]),
            Desk(RULES, [MARK, MAKE], [BEGIN + Counts(spare=1), BEGIN]),
            Desk(RULES, [MARK, MAKE], [BEGIN], limit=2), Desk(RULES, [MARK, MAKE], [BEGIN], store=[0]),
            Desk(RULES, [MARK, MAKE], [BEGIN], store=[1]), Desk(RULES, [MARK, MAKE], [BEGIN], store=[1, 0]),
            Desk(other, [MARK, MAKE], [BEGIN]),
        ]
        for one, two in itertools.product(desks, desks):
            self.assertIs(one == two, one is two)
            self.assertIs(one != two, one is not two)
        self.assertEqual(desks[0], self.desk)
        self.assertEqual(desks[10], Desk(RULES, [MARK, MAKE], [BEGIN], store=(0, 1)))

    def test_equal_rules_in_another_order(self):
        turned = Rules(AtMost(2, "spare"), AtMost(1, "main"), AtLeast(1, "main"), loose=("plain", "gray"))
        self.assertEqual(Desk(RULES, [MARK], [BEGIN], store=[0]), Desk(turned, [MARK], [BEGIN], store=[0]))

    def test_other_values(self):
        for value in odd_values() + [str(self.desk), MARK, [MARK, MAKE], (MARK, MAKE)]:
            self.assertIs(self.desk == value, False)
            self.assertIs(value == self.desk, False)
            self.assertIs(self.desk != value, True)

    def test_varied(self):
        desk = Desk(RULES, [MARK], [BEGIN], limit=2, store=[1])
        self.assertEqual(desk.varied(), desk)
        self.assertIsNot(desk.varied(), desk)
        self.assertEqual(desk.varied(doors=[MAKE]), Desk(RULES, [MAKE], [BEGIN], limit=2, store=[1]))
        self.assertEqual(desk.varied(limit=3), Desk(RULES, [MARK], [BEGIN], limit=3, store=[1]))
        self.assertEqual(desk.varied(store=()), Desk(RULES, [MARK], [BEGIN], limit=2))
        self.assertEqual(desk.varied(doors=[MAKE, MARK], limit=1, store=(1, 0)),
                         Desk(RULES, [MAKE, MARK], [BEGIN], limit=1, store=[0, 1]))
        self.assertEqual(desk, Desk(RULES, [MARK], [BEGIN], limit=2, store=[1]))

    def test_varied_raises_as_the_class(self):
        desk = Desk(RULES, [MARK], [BEGIN], limit=2, store=[1])
        for named, what in (({"doors": []}, "doors"), ({"limit": 0}, "limit"), ({"limit": False}, "limit"),
                            ({"store": False}, "store"), ({"store": [2]}, "store"), ({"store": 0, "limit": 0}, "limit"),
                            ({"doors": [MARK, MARK], "limit": 0}, "doors")):
            with self.assertRaises(BadDesk) as caught:
                desk.varied(**named)
            self.assertEqual(caught.exception.what, what)
        with self.assertRaises(Unfit):
            desk.varied(doors=[Door("d", "do new foreign")], limit=0)
        with self.assertRaises(TypeError):
            desk.varied([MAKE])
