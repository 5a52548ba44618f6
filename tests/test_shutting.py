"""Open doors, doors that are shut for ever, and futures (31, 32)."""

import random
import unittest

import naive
from countsheld.counts import Counts
from countsheld.errors import NoDoor, NotKept, NoWay, TooMany
from countsheld.judging import judge, possible
from countsheld.rules import AtMost, Exactly, Rules
from countsheld.shutting import future, is_future, openings, shut
from countsheld.standings import alone, meeting
from making import desk
from odd import odd_values
from small import small_desk
from test_judging import cube

LAST = desk(rules=Rules(Exactly(1, "admin"), AtMost(2, "user")), begins=[Counts(admin=1)], limit=1,
            quit="look admin > 1 / do row admin -> gone", add="look user < 2 / do new user")
STEPS = desk(rules=Rules(AtMost(2, "a"), AtMost(1, "b")), begins=[Counts()], limit=1, z="look a = 2 / do row a -> gone",
             up="do new a if a < 2 and b = 0", end="do all a -> gone then new b if a = 2", never="do one b -> gone if a = 1")


def rest(*numbers):
    return numbers, ()


class TestOpenings(unittest.TestCase):

    def test_the_example(self):
        self.assertEqual(openings(LAST, Counts(admin=1)), ["add"])
        self.assertEqual(openings(desk=LAST, counts=Counts(admin=1, user=2)), [])
        self.assertEqual(shut(LAST), [("quit", (1, 0)), ("quit", (1, 1)), ("quit", (1, 2)), ("add", (1, 2))])

    def test_the_order_of_the_desk(self):
        self.assertEqual(openings(STEPS, Counts()), ["up"])
        self.assertEqual(openings(STEPS, Counts(a=2)), ["z", "end"])
        self.assertEqual(openings(STEPS, Counts(b=1)), [])
        self.assertEqual(shut(STEPS), [("z", (0, 1)), ("up", (0, 1)), ("end", (0, 1)), ("never", (0, 0)), ("never", (0, 1)),
                                       ("never", (1, 0)), ("never", (2, 0))])

    def test_the_row_is_free(self):
        rules = Rules(AtMost(2, "a"), AtMost(2, "b"), loose=["x"])
        named = {"d": "look row a / do row a -> a", "e": "look row x / do row x -> x", "f": "look row b or x / do row b -> b",
                 "g": "do one x -> x", "h": "look row x / do one x -> x then row x -> x"}
        used = desk(rules=rules, begins=[Counts(), Counts(a=1), Counts(b=1)], limit=1, **named)
        self.assertEqual(openings(used, Counts()), ["e", "g", "h"])
        self.assertEqual(openings(used, Counts(a=1)), ["d", "e", "g", "h"])
        self.assertEqual(openings(used, Counts(b=1)), ["e", "f", "g", "h"])

    def test_the_touched_owner_is_free(self):
        rules = Rules(AtMost(2, "a"), AtMost(1, "b"))
        begins = [Counts(), Counts(a=1), Counts(b=1)]
        used = desk(rules=rules, begins=begins, limit=2, d="do take a -> a if a < 2", e="look a = 0 / do join if a + b = 0",
                    f="do give b -> b if other a = 2 and other b = 0", g="look b = 1 / do take b -> a if a < 0")
        self.assertEqual(openings(used, Counts()), ["d", "e"])
        self.assertEqual(openings(used, Counts(b=1)), ["d", "f"])
        self.assertEqual(openings(used, Counts(a=2)), [])
        # The other owner has to be possible.
        none = desk(rules=rules, begins=[Counts(b=1), Counts()], limit=1, d="do take a -> a if a < 2")
        self.assertEqual((openings(none, Counts()), shut(none)), ([], [("d", (0, 0)), ("d", (0, 1))]))

    def test_the_touched_owner_may_be_held(self):
        used = desk(rules=Rules(AtMost(1, "a")), begins=[Counts(a=1), Counts()], limit=1, take="hold / do take a -> a if a = 0",
                    go="look a = 1 / hold / do one a -> a")
        self.assertEqual(openings(used, Counts()), ["take"])
        self.assertEqual(openings(used, Counts(a=1)), ["go"])

    def test_refused_at_a_later_line(self):
        used = desk(rules=Rules(AtMost(2, "a")), begins=[Counts()], limit=3, store=[0], d="do new a / look a = 2 / do one a -> gone",
                    e="do new a / do new a", f="do new a then new a then new a")
        self.assertEqual(openings(used, Counts()), ["e"])
        self.assertEqual(openings(used, Counts(a=1)), ["d"])

    def test_errors_in_order(self):
        broken = desk(rules=Rules(AtMost(1, "a")), limit=1, d="do new a")
        many = cube([0], wait="look a = 0 and b = 0 and c = 0 / do new a")
        for act in (lambda used, counts: openings(used, counts), lambda used, counts: future(used, None, counts),
                    lambda used, counts: is_future(used, None, counts, None), lambda used, _: shut(used)):
            with self.assertRaises(TooMany) as caught:
                act(many, Counts(a=9))
            self.assertEqual(caught.exception.what, "standings")
            self.assertRaises(NotKept, act, broken, Counts(a=9))
        for value in odd_values():
            with self.assertRaises(NoDoor) as caught:
                future(LAST, value, Counts(admin=7))
            self.assertIs(caught.exception.name, value)
            with self.assertRaises(NoDoor) as caught:
                is_future(LAST, value, Counts(admin=7), None)
            self.assertIs(caught.exception.name, value)
        for counts, numbers in ((Counts(admin=2), (2, 0)), (Counts(), (0, 0)), (Counts(admin=1, user=-1), (1, -1)),
                                (Counts(admin=1, user=10 ** 20), (1, 10 ** 20))):
            for act in (lambda: openings(LAST, counts), lambda: future(LAST, "quit", counts),
                        lambda: is_future(LAST, "quit", counts, 7)):
                with self.assertRaises(NoWay) as caught:
                    act()
                self.assertEqual(caught.exception.standing, (numbers, ()))


class TestFutures(unittest.TestCase):

    def test_shut(self):
        found = future(LAST, "quit", Counts(admin=1, user=1))
        self.assertEqual((found[0], found[1].__class__), ("shut", tuple))
        self.assertTrue(is_future(LAST, "quit", Counts(admin=1, user=1), found))
        self.assertEqual(set(found[1]), {standing for standing in possible(LAST) if standing[0][1] > 0})
        self.assertEqual(set(future(desk=STEPS, counts=Counts(b=1), door="never")[1]),
                         {one for one in possible(STEPS) if one[0] == (0, 1)})

    def test_opens(self):
        self.assertEqual(future(STEPS, "up", Counts(a=1)), ("opens", (rest(1, 0),)))
        self.assertEqual(future(STEPS, "end", Counts()), ("opens", (rest(0, 0), rest(1, 0), rest(2, 0))))
        self.assertEqual(future(STEPS, "up", Counts(a=2))[0], "opens")
        self.assertEqual(len(future(STEPS, "up", Counts(a=2))[1]), 3)

    def test_almost_shut(self):
        counts = Counts(admin=1, user=1)
        word, standings = future(LAST, "quit", counts)

        def look(thing, door="quit", at=counts):
            return is_future(desk=LAST, door=door, counts=at, thing=thing)

        self.assertTrue(look((word, standings)))
        self.assertTrue(look((word, standings[::-1])))
        self.assertTrue(look((word, standings + standings)))
        self.assertTrue(look((word, tuple(possible(LAST)))))
        for at in range(len(standings)):
            self.assertFalse(look((word, standings[:at] + standings[at + 1:])))
        for thing in ([word, standings], (word, list(standings)), (word, standings, None), (word,), standings, ("opens", standings),
                      ("Shut", standings), (None, standings), (word, ()), (word, None), (word, (*standings, rest(2, 0))),
                      (word, (*standings, rest(True, 1))), (word, (*standings, rest(0, 0))), (word, (*standings, [(1, 1), ()]))):
            self.assertIs(look(thing), False, thing)
        # The door is open at some of these, or the counts are not among them.
        self.assertFalse(look((word, tuple(possible(LAST))), door="add"))
        self.assertFalse(look((word, standings), at=Counts(admin=1)))
        self.assertTrue(look((word, standings), at=Counts(admin=1, user=2)))
        for value in odd_values():
            self.assertIs(look(value), False)
            self.assertIs(look((word, value)), False)
            self.assertIs(look((value, standings)), False)
            self.assertIs(look((word, (*standings, value))), False)

    def test_almost_opens(self):
        zero, one, two, end = rest(0, 0), rest(1, 0), rest(2, 0), rest(0, 1)

        def look(*standings, door="end", at=Counts(), word="opens"):
            return is_future(STEPS, door, at, (word, standings))

        self.assertTrue(look(zero, one, two))
        # A refused call leads from a standing to itself.
        self.assertTrue(look(zero, zero, one, two))
        self.assertTrue(look(zero, one, two, two))
        going = ((2, 0), (("a", (("z", 1),)),))
        self.assertTrue(look(zero, one, two, going, one, two))
        for standings in ((zero, two), (one, two), (zero, one), (zero,), (), (zero, one, two, going), (two, one, zero),
                          (zero, one, two, end), (zero, one, (2, 0)), (zero, one, [(2, 0), ()]), (zero, one, rest(True, 0), two)):
            self.assertIs(look(*standings), False, standings)
        self.assertFalse(look(zero, one, two, at=Counts(a=1)))
        self.assertTrue(look(one, two, at=Counts(a=1)))
        for word in ("shut", "Opens", "open", None, True, ("opens",)):
            self.assertFalse(look(zero, one, two, word=word))
        self.assertFalse(look(zero, one, two, door="up"))
        self.assertTrue(look(zero, one, two, going, one, door="up"))
        self.assertFalse(is_future(STEPS, "end", Counts(), ("opens", [zero, one, two])))

    def test_standings_that_are_not_at_rest(self):
        # Another call could begin and be carried through beside the one under way.
        rules = Rules(AtMost(1, "a"))
        used = desk(rules=rules, begins=[Counts()], limit=2, up="look a = 0 / do new a if a = 0", see="look a = 0 / look a = 0 / do all a -> a")
        going = ((0,), (("", (("see", 1),)),))
        self.assertTrue(is_future(used, "see", Counts(), ("opens", (rest(0),))))
        self.assertFalse(is_future(used, "see", Counts(), ("opens", (rest(0), going))))
        self.assertTrue(is_future(used, "see", Counts(), ("opens", (rest(0), going, rest(0)))) is
                        (rest(0) in alone(used, going)))
        # A call is under way at some of the standings that show that a door is shut, and could begin there, too.
        used = desk(rules=Rules(AtMost(1, "a"), AtMost(1, "b")), begins=[Counts(a=1)], limit=2, last="look b = 1 / do all a -> a",
                    up="look a = 1 / do new b if b = 0 / do all b -> gone / look a = 1", shut="look b = 1 / look b = 0 / do new b if b = 0 and a = 0")
        self.assertTrue(any(standing[0][1] == 1 and standing[1] for standing in possible(used)))
        self.assertEqual([name for name, _ in shut(used)], ["last", "shut"])
        for name in ("last", "shut"):
            thing = future(used, name, Counts(a=1))
            self.assertEqual(thing[0], "shut")
            self.assertTrue(is_future(used, name, Counts(a=1), thing))

    def test_what_meetings_make_of_an_owner(self):
        rules = Rules(AtMost(2, "a"))
        used = desk(rules=rules, begins=[Counts(), Counts(a=1)], limit=1, give="do give a -> a if other a = 0", full="look a = 1 / do all a -> a")
        self.assertEqual(future(used, "full", Counts()), ("opens", (rest(0), rest(1))))
        self.assertTrue(is_future(used, "full", Counts(), ("opens", (rest(0), rest(1), rest(0), rest(1)))))
        # A line that is refused concerns the touched owner, too, and leaves it as it is.
        one = desk(rules=rules, begins=[Counts(), Counts(a=1)], limit=1, give="do give a -> a if other a = 7", full="look a = 1 / do all a -> a")
        self.assertEqual(meeting(one, rest(1), rest(1)), [(rest(1), rest(1))])
        self.assertTrue(is_future(one, "full", Counts(a=1), ("opens", (rest(1), rest(1)))))
        self.assertEqual(shut(one), [("give", (0,)), ("give", (1,)), ("full", (0,))])
        joined = desk(rules=rules, begins=[Counts(a=1)], limit=1, join="do join if a = 1 and other a = 1", one="look a = 1 / do all a -> a")
        self.assertEqual(shut(joined), [("join", (2,)), ("one", (2,))])

    def test_an_owner_alone(self):
        # Nothing is refused to the touched owner, so that no event leaves it as it is.
        used = desk(rules=Rules(AtMost(1, "a")), begins=[Counts()], limit=1, up="hold / do new a if a = 0 / look a = 1")
        self.assertTrue(judge(used))
        self.assertFalse(is_future(used, "up", Counts(), ("opens", (rest(0), rest(0)))))
        self.assertTrue(is_future(used, "up", Counts(), ("opens", (rest(0),))))


class TestAgainstTheModel(unittest.TestCase):

    def open_at(self, used, door, standing, found):
        kinds = [*used.rules.kinds, *used.rules.loose] if used[door].names_row else [None]
        return any(let for kind in kinds for let, *_ in naive.whole_calls(used, door, standing, found, kind))

    def check(self, used):
        found = sorted(possible(used))
        steps = {one: set(alone(used, one)) for one in found}
        for home in found:
            for other in found:
                for here, there in meeting(used, home, other):
                    steps[home].add(here)
                    if there is not None:
                        steps[other].add(there)
        later = {}
        for one in found:
            later[one], pending = {one}, [one]
            while pending:
                fresh = steps[pending.pop()] - later[one]
                later[one] |= fresh
                pending += sorted(fresh)
        resting = [one for one in found if one[1] == ()]
        opens = {(door.name, one) for door in used for one in resting if self.open_at(used, door.name, one, found)}
        wanted = []
        for door in used:
            for one in resting:
                counts = Counts.of(list(zip(used.rules.kinds, one[0])))
                self.assertEqual(door.name in openings(used, counts), (door.name, one) in opens, (str(used), one))
                thing = future(used, door.name, counts)
                self.assertTrue(is_future(used, door.name, counts, thing))
                if not any((door.name, two) in opens for two in later[one]):
                    wanted.append((door.name, one[0]))
                    self.assertEqual(set(thing[1]), later[one])
                else:
                    self.assertEqual(len(thing[1]), self.least(steps, opens, door.name, one))
        self.assertEqual(shut(used), wanted, str(used))
        return len(wanted)

    def least(self, steps, opens, door, one):
        layer, many = {one}, 1
        while not any((door, two) in opens for two in layer):
            layer, many = layer | {two for before in layer for two in steps[before]}, many + 1
        return many

    def test_small_desks(self):
        some = none = 0
        for seed in range(300):
            used = small_desk(random.Random(seed))
            try:
                if not judge(used) or len(list(possible(used))) > 12:
                    continue
            except TooMany:
                continue
            many = self.check(used)
            some, none = some + (many > 0), none + (many == 0)
        self.assertGreater(some, 40)
        self.assertGreater(none, 3)


if __name__ == "__main__":
    unittest.main()
