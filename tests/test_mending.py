"""Changes of desks, mends, sets of rules for the store, and refusals (35, 36)."""

import itertools
import random
import unittest

import naive
from countsheld.counts import Counts
from countsheld.desks import Desk
from countsheld.doors import Door
from countsheld.errors import BadDoor, CountsheldError, NoDoor, NoRule, TooMany, Unfit
from countsheld.judging import judge, possible
from countsheld.mending import (
    After, Change, Demand, Help, Hold, Keep, Look, applied, enough, mends, mends_of, refusals,
)
from countsheld.rules import AtLeast, AtMost, Between, Rules
from making import desk
from odd import odd_values
from small import small_desk
from test_judging import cube

RULES = Rules(AtMost(1, "main"), AtMost(2, "spare"), loose=["plain"])
MARK = desk(rules=Rules(AtMost(1, "main"), loose=["plain"]), limit=2, mark="look main = 0 / do row plain -> main")
DESK = desk(rules=RULES, begins=[Counts(main=1)], limit=2, store=[1],
            d="look main = 0 / do new main if spare = 0 and main = 0 / do one main -> spare / look spare > 0",
            e="hold / do row plain -> main then new spare if main < 1", f="do new spare")


class TestChanges(unittest.TestCase):

    def changed(self, change, name, *lines, used=DESK):
        """Check the door behind the change; everything else stays as it was."""
        self.assertIsInstance(change, Change)
        text = str(used)
        made = change(used)
        self.assertIsInstance(made, Desk)
        self.assertIsNot(made, used)
        self.assertEqual(made[name].lines, lines)
        doors = [Door.of(name, lines) if one.name == name else one for one in used]
        self.assertEqual(made, used.varied(doors=doors))
        self.assertEqual((str(used), change(used), change(desk=used)), (text, made, made))

    def test_hold(self):
        self.changed(Hold("f"), "f", "hold", "do new spare")
        self.changed(Hold(door="d"), "d", "hold", *DESK["d"].lines)
        self.changed(Hold("e"), "e", *DESK["e"].lines)
        late = desk(rules=RULES, d="look main = 0 / hold / do new main")
        self.changed(Hold("d"), "d", "look main = 0", "hold", "do new main", used=late)

    def test_look(self):
        self.changed(Look("f", "main = 0"), "f", "look main = 0", "do new spare")
        self.changed(Look(tests="main = 0 and spare < 2", door="d"), "d", "look main = 0 and spare < 2", *DESK["d"].lines)
        self.changed(Look("e", "row plain"), "e", "hold", "look row plain", *DESK["e"].lines[1:])
        late = desk(rules=RULES, d="look main = 0 / hold / do new main")
        self.changed(Look("d", "spare = 0"), "d", "look spare = 0", "look main = 0", "hold", "do new main", used=late)

    def test_demand(self):
        self.changed(Demand("f", "main = 0"), "f", "do new spare if main = 0")
        self.changed(Demand(tests="main = 0 and spare > 1", door="f"), "f", "do new spare if main = 0 and spare > 1")
        self.changed(Demand("e", "spare < 2"), "e", "hold", "do row plain -> main then new spare if main < 1 and spare < 2")
        lines = DESK["d"].lines
        self.changed(Demand("d", "spare < 2"), "d", *lines[:2], "do one main -> spare if spare < 2", lines[3])

    def test_help(self):
        self.changed(Help("f", "one main -> gone"), "f", "do one main -> gone then new spare")
        self.changed(Help(part="all main -> spare", door="e"), "e", "hold",
                     "do all main -> spare then row plain -> main then new spare if main < 1")
        self.changed(Help("f", "new main then new spare"), "f", "do new main then new spare then new spare")
        lines = DESK["d"].lines
        self.changed(Help("d", "all main -> spare"), "d", *lines[:2], "do all main -> spare then one main -> spare", lines[3])

    def test_after(self):
        self.changed(After("f", "new main"), "f", "do new spare", "do new main")
        self.changed(After(part="one spare -> plain", door="d"), "d", *DESK["d"].lines, "do one spare -> plain")
        self.changed(After("f", "new main if main = 0"), "f", "do new spare", "do new main if main = 0")

    def test_keep(self):
        for rule, store in ((0, (0, 1)), (1, (1,))):
            made = Keep(rule)(DESK)
            self.assertEqual((made.store, made.varied(store=[1])), (store, DESK))
            self.assertEqual(DESK.store, (1,))
            self.assertIsNot(made, DESK)
        self.assertEqual(Keep(rule=0)(desk=MARK).store, (0,))

    def test_text(self):
        for change, text in ((Hold("d"), "Hold d"), (Look("mark", "main = 0"), "Look mark main = 0"), (Demand("d", "a < 1"), "Demand d a < 1"),
                             (Help("d", "new a"), "Help d new a"), (After("d", "one a -> gone"), "After d one a -> gone"),
                             (Keep(3), "Keep 3"), (Keep(None), "Keep None"), (Keep(True), "Keep True"), (Keep("0"), "Keep 0"),
                             (Keep([1, "a"]), "Keep [1, 'a']"), (Keep((1,)), "Keep (1,)"), (Keep(AtMost(1, "a")), "Keep at most 1 a"),
                             (Keep(Counts(a=1)), "Keep Counts(a=1)"), (Keep(-10 ** 39), "Keep -" + "1" + "0" * 39), (Hold(""), "Hold "),
                             (Look("", " "), "Look   ")):
            self.assertEqual(change.text, text)

    def test_a_change_is_made_without_any_error(self):
        for value in odd_values():
            self.assertEqual(Keep(value).text, f"Keep {value}")
        for text in ("", " ", "\n", "do", "x" * 3000, "main = 0 then"):
            for made in (Hold(text), Look(text, text), Demand(text, text), Help(text, text), After(text, text)):
                self.assertIsInstance(made, Change)

    def test_no_door(self):
        for name in ("", "g", "D", "x" * 3000, "d "):
            for change in (Hold(name), Look(name, "?"), Demand(name, "?"), Help(name, "?"), After(name, "?")):
                with self.assertRaises(NoDoor) as caught:
                    change(DESK)
                self.assertEqual(caught.exception.name, name)

    def test_no_rule(self):
        for value in [*odd_values(), 2, -1, 10 ** 39, "0", (0,)]:
            with self.assertRaises(NoRule) as caught:
                Keep(value)(DESK)
            self.assertIs(caught.exception.rule, value)

    def test_lines_that_cannot_be_written(self):
        for change, at in (
            (Look("f", "main"), 0), (Look("f", ""), 0), (Look("e", "main = 10"), 1), (Look("f", "other main = 0"), 0),
            (Look("f", "main = 0\ndo new main"), 0), (Look("f", "main = 0 and"), 0), (Look("f", " main = 0"), 0),
            (Demand("f", "row"), 0), (Demand("d", "main = 0 and main = 0 and main = 0 and main = 0 and main = 0"), 2),
            (Demand("f", "main = 0 then new main"), 0), (Demand("f", "if main = 0"), 0), (Demand("f", ""), 0),
            (Help("f", ""), 0), (Help("f", "new main if main = 0"), 0), (Help("e", "row main -> gone"), 1), (Help("f", "new"), 0),
            (Help("f", "new main then"), 0), (After("f", ""), 1), (After("f", "new main new main"), 1), (After("d", "join join"), 4),
            # Rules on the whole door: six lines, one line that touches.
            (After("f", "new main\nnew main"), 1),
        ):
            with self.assertRaises(BadDoor) as caught:
                change(DESK)
            self.assertEqual(caught.exception.at, at, change.text)
        long = desk(rules=RULES, d=" / ".join(["do new main"] * 6), j="do join / look main = 0")
        for change, at in ((Hold("d"), 7), (Look("d", "main = 0"), 7), (After("d", "new main"), 7), (After("j", "join"), 3),
                           (After("j", "take main -> main"), 3)):
            with self.assertRaises(BadDoor) as caught:
                change(long)
            self.assertEqual(caught.exception.at, at)

    def test_lines_that_do_not_fit(self):
        for change, line in ((Look("f", "plain = 0"), 0), (Demand("d", "plain > 0"), 2), (Look("e", "c = 0"), 1), (After("d", "new c"), 4),
                             (Help("f", "all plain -> gone"), 0), (Help("f", "new main then one plain -> main"), 0)):
            with self.assertRaises(Unfit) as caught:
                change(DESK)
            self.assertEqual((caught.exception.door, caught.exception.line), (change.text.split()[1], line))
        two = desk(rules=RULES, d="do one plain -> main")
        with self.assertRaises(Unfit):
            Help("d", "new spare")(two)

    def test_applied(self):
        changes = [Look("f", "main = 0"), Hold("f"), Demand("f", "spare = 0"), Keep(0), Look("f", "main < 1"), After("f", "new main")]
        made = applied(DESK, changes)
        self.assertEqual(made["f"].lines, ("hold", "look main < 1", "look main = 0", "do new spare if spare = 0", "do new main"))
        self.assertEqual((made.store, DESK.store), ((0, 1), (1,)))
        self.assertEqual(applied(changes=[], desk=DESK), DESK)
        with self.assertRaises(NoDoor):
            applied(DESK, [Hold("f"), Hold("g"), Keep(9)])
        with self.assertRaises(NoRule):
            applied(DESK, [Keep(9), Hold("g")])


def plain_mends(used, pool):
    """Return all least mends; try every set."""
    kept = set()
    for many in range(len(pool) + 1):
        for chosen in itertools.combinations(range(len(pool)), many):
            try:
                made = applied(used, [pool[at] for at in chosen])
            except (CountsheldError, LookupError):
                continue
            if judge(made):
                kept.add(chosen)
    return sorted(one for one in kept if not any(set(two) < set(one) for two in kept))


class TestMends(unittest.TestCase):

    def test_the_example(self):
        pool = [Hold("mark"), Demand("mark", "main = 0"), Keep(0), Help("mark", "all main -> plain")]
        self.assertEqual(mends(MARK, *pool), [(0,), (1,), (2,), (3,)])
        self.assertEqual(mends_of(MARK, pool), [(0,), (1,), (2,), (3,)])
        self.assertEqual(mends_of(pool=tuple(pool), desk=MARK), [(0,), (1,), (2,), (3,)])
        self.assertEqual(mends(MARK, pool[1], pool[2]), [(0,), (1,)])
        self.assertEqual(mends(desk=MARK), [])

    def test_kept_desks(self):
        for pool in ([], [Hold("mark")], [Keep(0), Look("mark", "main = 1")], [After("mark", "new main")]):
            self.assertEqual(mends_of(MARK.varied(limit=1), pool), [()])
            self.assertEqual(mends(MARK.varied(store=[0]), *pool), [()])

    def test_no_mend(self):
        self.assertEqual(mends(MARK), [])
        self.assertEqual(mends(MARK, Look("mark", "main = 0"), After("mark", "new main")), [])

    def test_several_changes_are_needed(self):
        rules = Rules(AtMost(1, "a"), AtMost(1, "b"))
        used = desk(rules=rules, limit=1, d="do new a", e="do new b")
        pool = [Demand("d", "a = 0"), Keep(0), Demand("e", "b = 0"), Keep(1)]
        self.assertEqual(mends_of(used, pool), [(0, 2), (0, 3), (1, 2), (1, 3)])
        self.assertEqual(mends(used, pool[0], pool[2], pool[3], Look("d", "a = 0")), [(0, 1), (0, 2), (1, 3), (2, 3)])
        self.assertEqual(mends(used, *pool[:2]), [])

    def test_more_changes_can_break(self):
        # The first mends the desk, and both do not; the third is one of its own.
        rules = Rules(AtMost(1, "a"))
        used = desk(rules=rules, limit=1, d="do new a")
        pool = [Demand("d", "a = 0"), After("d", "new a"), Keep(0)]
        self.assertFalse(judge(applied(used, pool[:2])))
        self.assertEqual(mends_of(used, pool), [(0,), (2,)])
        # A larger set may mend the desk where none of its parts does.
        pool = [After("d", "one a -> gone"), Help("d", "new a"), Look("d", "a = 1"), Demand("d", "a = 0")]
        self.assertEqual(mends_of(used, pool), plain_mends(used, pool))

    def test_the_order_of_the_pool(self):
        used = desk(rules=Rules(AtMost(1, "a")), limit=1, d="do new a")
        # Each Demand is put into the line that is the last one then.
        first, second = After("d", "one a -> a"), Demand("d", "a = 0")
        self.assertEqual(mends(used, first, second), [(1,)])
        self.assertEqual(applied(used, [first, second])["d"].lines, ("do new a", "do one a -> a if a = 0"))
        self.assertEqual(mends(used, second, first), [(0,)])

    def test_sets_whose_changes_raise(self):
        used = desk(rules=Rules(AtMost(1, "a")), limit=1, d="do new a if a < 5 and a < 6 and a < 7 and a < 8")
        # Without the first change the line would have five tests.
        pool = [After("d", "one a -> gone"), Demand("d", "a > 0")]
        self.assertRaises(BadDoor, applied, used, pool[1:])
        self.assertEqual(mends_of(used, pool), [(0,)])
        pool = [Help("d", "all a -> gone"), Keep(0), After("d", "new a if a = 0"), Demand("d", "a = 0")]
        self.assertEqual(mends_of(used, pool), plain_mends(used, pool))
        for error, raising in ((BadDoor, Demand("d", "a = 0")), (Unfit, After("d", "new c")), (NoDoor, Hold("e")), (NoRule, Keep(1)),
                               (NoRule, Keep(True))):
            with self.assertRaises(error):
                mends(used, Keep(0), raising)
            with self.assertRaises(error):
                mends_of(used, [raising])

    def test_errors_in_order(self):
        used = desk(rules=Rules(AtMost(1, "a")), limit=1, d="do new a")
        for pool in ([Hold("z")] * 5, [Keep(0)] * 5, [Keep(None)] * 9):
            with self.assertRaises(TooMany) as caught:
                mends_of(used, pool)
            self.assertEqual(caught.exception.what, "changes")
            with self.assertRaises(TooMany) as caught:
                mends(used, *pool)
            self.assertEqual(caught.exception.what, "changes")
        self.assertEqual(mends_of(used, [Keep(0)] * 4), [(0,), (1,), (2,), (3,)])
        more = cube([0, 1, 2], wait="look a = 0 and b = 0 and c = 0 / do new a")
        with self.assertRaises(NoDoor):
            mends(more, Keep(0), Hold("zz"))
        for pool in ([], [Keep(0)], [Look("wait", "a = 9")]):
            with self.assertRaises(TooMany) as caught:
                mends(more, *pool)
            self.assertEqual(caught.exception.what, "standings")
        # Only a larger set has too many.
        least = cube([0, 1, 2])
        self.assertEqual(mends(least, Keep(0), Look("na", "a = 9")), [()])
        with self.assertRaises(TooMany) as caught:
            mends(least, Keep(0), Look("na", "b = 0 and c = 0"))
        self.assertEqual(caught.exception.what, "standings")

    def test_by_chance(self):
        found = {}
        for seed in range(60):
            dice = random.Random(seed)
            used = small_desk(dice, 2, 2)
            name = used.doors[0].name
            pool = dice.sample([Hold(name), Look(name, "a = 0"), Demand(name, "a < 1"), Help(name, "all a -> gone"), After(name, "new a if a = 0"),
                                Keep(0), Keep(1), Demand(name, "b = 0")], dice.choice([2, 3, 4]))
            try:
                wanted = plain_mends(used, pool)
                applied(used, pool)
            except (CountsheldError, LookupError):
                continue
            self.assertEqual(mends_of(used, pool), wanted, (str(used), [one.text for one in pool]))
            shape = (len(wanted), max(map(len, wanted), default=0))
            found[shape] = found.get(shape, 0) + 1
        self.assertGreater(len(found), 3)


class TestEnough(unittest.TestCase):

    def test_sets_in_order(self):
        rules = Rules(AtMost(1, "a"), AtMost(1, "b"), AtMost(1, "a", "b"), AtLeast(0, "a"))
        used = desk(rules=rules, limit=1, store=[3], d="do new a", e="do new b")
        self.assertEqual(enough(used), [(2,)])
        self.assertEqual(enough(desk=used.varied(store=[0, 1, 2, 3])), [(2,)])
        rules = Rules(AtMost(1, "a"), AtMost(1, "b"), Between(0, 1, "a"), AtMost(2, "b"))
        used = desk(rules=rules, limit=1, d="do new a", e="do new b")
        self.assertEqual(enough(used), [(0, 1), (1, 2)])
        self.assertEqual(enough(used.varied(doors=[used["d"]])), [(0,), (2,)])
        self.assertEqual(enough(MARK), [(0,)])

    def test_kept_without_the_store(self):
        self.assertEqual(enough(MARK.varied(limit=1)), [()])
        self.assertEqual(enough(MARK.varied(limit=1, store=[0])), [()])

    def test_too_many(self):
        more = cube([0, 1, 2], wait="look a = 0 and b = 0 and c = 0 / do new a")
        with self.assertRaises(TooMany) as caught:
            enough(more)
        self.assertEqual(caught.exception.what, "standings")
        self.assertEqual(enough(cube([])), [(0, 1, 2)])

    def test_a_set_with_too_many_alone(self):
        # Only where the store refuses the second line of d is an owner at rest behind its first line.
        rules = Rules(AtMost(1, "a"), AtMost(1, "b"), AtMost(9, "c"), AtMost(9, "e"))
        used = desk(rules=rules, limit=1, d="do new a if a = 0 / do new b then new b", n="look a = 1 / do new c if c < 9",
                    m="do new e if a = 1 and e < 9")
        for store in ([], [0], [2, 3], [0, 2, 3]):
            self.assertEqual(len(list(possible(used.varied(store=store)))), 2)
        for act in (lambda: judge(used.varied(store=[1])), lambda: enough(used), lambda: mends(used, Keep(1))):
            with self.assertRaises(TooMany) as caught:
                act()
            self.assertEqual(caught.exception.what, "standings")

    def test_by_chance(self):
        shapes = set()
        for seed in range(60):
            used = small_desk(random.Random(seed))
            sets = [chosen for many in range(3) for chosen in itertools.combinations(range(2), many) if many <= len(used.rules.listed)]
            sets = [chosen for chosen in sets if all(at < len(used.rules.listed) for at in chosen)]
            if len(used.rules.listed) != 2:
                continue
            try:
                kept = [chosen for chosen in sets if judge(used.varied(store=chosen))]
            except TooMany:
                self.assertRaises(TooMany, enough, used)
                continue
            wanted = sorted(one for one in kept if not any(set(two) < set(one) for two in kept))
            self.assertEqual(enough(used), wanted)
            shapes.add(tuple(wanted))
        self.assertGreater(len(shapes), 2)


class TestRefusals(unittest.TestCase):

    def test_lines_and_rules_in_order(self):
        rules = Rules(AtMost(1, "a"), AtLeast(1, "a", "b"), AtMost(1, "b"))
        used = desk(rules=rules, begins=[Counts(a=1)], limit=1, store=[2, 0, 1], z="look a = 1 / do new a / do new b", d="do new b / do one a -> gone",
                    e="do one b -> gone", f="do one a -> gone then one b -> gone")
        wanted = [("z", 1, 0), ("d", 0, 2), ("e", 0, 1)]
        self.assertEqual((refusals(used), refusals(desk=used), self.plain(used)), (wanted, wanted, wanted))
        self.assertEqual(refusals(used.varied(store=[])), [])

    def test_the_smallest_rule_of_the_home_first(self):
        rules = Rules(AtMost(1, "b"), AtLeast(1, "a"), AtMost(1, "a"))
        both = desk(rules=rules, begins=[Counts(a=1)], limit=1, store=[0, 1, 2], d="do give a -> a")
        # The home has too few, the touched owner too many: the home is looked at first.
        self.assertEqual(refusals(both), [("d", 0, 1)])
        self.assertEqual(refusals(both.varied(store=[0, 2])), [("d", 0, 2)])
        two = desk(rules=rules, begins=[Counts(a=1, b=1)], limit=1, store=[0, 1, 2], d="do new b then new a")
        self.assertEqual(refusals(two), [("d", 0, 0)])

    def test_before_the_first_event_that_breaks_a_rule(self):
        rules = Rules(AtMost(1, "a"), AtMost(1, "b"))
        used = desk(rules=rules, limit=1, store=[1], d="do new a", e="do new b if a = 2", f="look a = 1 / do new b then new b")
        self.assertFalse(judge(used))
        self.assertEqual(refusals(used), [("f", 1, 1)])
        # Refused by a test or a part ahead of the store.
        used = desk(rules=rules, limit=1, store=[0, 1], d="do new a if a = 0", e="do new b then new b then one a -> gone if a = 0")
        self.assertEqual(refusals(used), [])

    def test_too_many(self):
        more = cube([0, 1, 2], wait="look a = 0 and b = 0 and c = 0 / do new a")
        with self.assertRaises(TooMany) as caught:
            refusals(more)
        self.assertEqual(caught.exception.what, "standings")
        self.assertEqual(refusals(cube([0, 1, 2])), [("na", 0, 0), ("nb", 0, 1), ("nc", 0, 2)])

    def plain(self, used):
        """Return what the plain model refuses at possible standings."""
        found = set()
        for home in possible(used):
            for other in [None, *possible(used)]:
                for here in naive.extras(used, 2):
                    model = naive.model_of(used)
                    one = naive.put_owner(model, used, home, here)
                    two = None if other is None else naive.put_owner(model, used, other, dict.fromkeys(used.rules.loose, 1))
                    for event in naive.events_at(model, used, one, two):
                        behind = naive.happened(model, event)
                        if behind is not None and behind[1] and behind[1][1][0] == "rule":
                            name = event[1] if event[0] == "call" else model.calls[event[1]]["door"]
                            found.add((name, behind[1][0], behind[1][1][1]))
        order = [plan.name for plan in used]
        return sorted(found, key=lambda one: (order.index(one[0]), one[1:]))

    def test_by_chance(self):
        many = 0
        for seed in range(150):
            used = small_desk(random.Random(seed), 3, 2)
            try:
                if not used.store or len(list(possible(used))) > 10:
                    continue
            except TooMany:
                continue
            wanted = self.plain(used)
            self.assertEqual(refusals(used), wanted, str(used))
            many += len(wanted)
        self.assertGreater(many, 20)


if __name__ == "__main__":
    unittest.main()
