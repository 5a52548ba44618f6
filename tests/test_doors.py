"""Doors: their lines, what is read from them, and how they are shown (9, 10)."""

import itertools
import random
import re
import unittest

from countsheld.counts import Counts
from countsheld.doors import Door
from countsheld.errors import BadDoor
from countsheld.rules import AtMost
from odd import odd_values

BARRED = "hold look do row one all new give take join other if and or then gone".split()
SIGNS = ["<", "<=", "=", "!=", ">=", ">"]

KIND = rf"(?!(?:{'|'.join(BARRED)})(?![a-z]))[a-z]{{1,8}}(?![a-z])"
KINDS = rf"{KIND}(?: or {KIND})*"
SUM = rf"{KIND}(?: \+ {KIND})*"
TEST = rf"(?:row {KINDS}|(?:other )?{SUM} (?:<|<=|=|!=|>=|>) [0-9])"
TESTS = rf"{TEST}(?: and {TEST}){{0,3}}"
AFTER = rf"(?:gone|{KIND})"
PART = rf"(?:row {KINDS} -> {AFTER}|(?:one|all) {KIND} -> {AFTER}|new {KIND}|give {KINDS} -> {KIND}" \
       rf"|take {KIND} -> {KIND}|join)"
LINE = re.compile(rf"(?:hold|look {TESTS}|do {PART}(?: then {PART}){{0,3}}(?: if {TESTS})?)")


def is_line(text):
    """Tell by a regular expression whether a string is a line (a second reading of 9)."""
    if not LINE.fullmatch(text) or "\n" in text:
        return False
    for sign in ("or", "+"):
        for found in re.findall(rf"{KIND}(?: {re.escape(sign)} {KIND})+", text):
            kinds = found.split(f" {sign} ")
            if len(set(kinds)) < len(kinds):
                return False
    words = [part.split()[0] for part in text.partition(" if ")[0][3:].split(" then ")] if text[:2] == "do" else []
    named = [word for word in words if word in ("row", "give")]
    touching = [word for word in words if word in ("give", "take", "join")]
    if len(named) > 1 or len(touching) > 1:
        return False
    return bool(touching) or " other " not in text


GOOD_LINES = [
    "hold", "look row a", "look row a or b or c or d", "look main = 0", "look main + spare <= 9",
    "look a < 0 and b >= 1 and row c and a + b > 2", "do row plain -> main", "do row a or b -> gone",
    "do one a -> gone", "do one a -> b", "do all a -> b", "do all a -> gone", "do new a", "do give a -> b",
    "do give a or b or c -> a", "do take a -> b", "do take a -> a", "do join", "do row a -> a",
    "do new a if other a = 0", "do join if other a + b < 3 and a = 0 and row b and other c != 1",
    "do new a then new a then new a then new a", "do one a -> b then row c -> gone then take a -> b then all a -> c",
    "do give a -> b then one a -> gone if row a and other b = 0",
    "do row a -> b then join if other a >= 1", "do new abcdefgh", "do new x if row rows", "look at = 0 and to = 1",
]
TOUCHING = ("give", "take", "join")


def door_of(line):
    """Return a door that this line is the first one of; a line that touches not brings no other `do`."""
    return Door("d", line, "do new a")


class TestLines(unittest.TestCase):

    def is_good(self, line):
        try:
            door_of(line)
        except BadDoor as error:
            self.assertEqual(error.at, 0, line)
            return False
        return True

    def test_lines_that_are_written_well(self):
        for line in GOOD_LINES:
            wanted = "other" not in line or any(word in line for word in TOUCHING)
            self.assertEqual(is_line(line), wanted, line)
            self.assertEqual(self.is_good(line), wanted, line)

    def test_all_signs_and_digits(self):
        for sign, digit in itertools.product(SIGNS, "0123456789"):
            self.assertTrue(self.is_good(f"look a {sign} {digit}"))
            self.assertTrue(self.is_good(f"do join if other a + b {sign} {digit}"))
        for sign in ("==", "<>", "=<", "=>", "<<", "", "!", "is", "+", "->", "&lt;"):
            self.assertFalse(self.is_good(f"look a {sign} 1"))

    def test_lines_that_are_not(self):
        for line in (
                "", " ", "hold ", " hold", "hold hold", "hold a", "holds", "Hold", "look", "look ", "do", "do ",
                "look hold", "a = 0", "if a = 0", "look a", "look a =", "look a 0", "look = 0", "look a = 10",
                "look a = 01", "look a = -1", "look a = b", "look a=0", "look a = 0 and", "look and a = 0",
                "look a = 0 and and b = 0", "look a = 0, b = 0", "look a = 0 or b = 0", "look a = 0 b = 0",
                "look a + = 0", "look + a = 0", "look a + + b = 0", "look a b = 0", "look a + b + = 0",
                "look row", "look row a or", "look row or a", "look row a b", "look row a + b", "look row a = 0",
                "look a or b = 0", "look other a = 0", "look other row a", "look row a and other a = 0",
                "look a = 0 if b = 0", "look a = 0 then b = 0", "look new a", "look 1 = a", "look a = 0\n",
                "look a + a = 0", "look a + b + a = 0", "look row a or a", "look row a or b or a",
                "do row a", "do row a ->", "do row -> a", "do row a b", "do row a - > b", "do row a->b", "do row a -> b c",
                "do row a -> b or c", "do row a + b -> c", "do row a or a -> b", "do row gone -> a", "do row a -> hold",
                "do row a or -> b", "do row a -> -> b", "do row or a -> b",
                "do one a", "do one a or b -> c", "do one -> a", "do one gone -> a", "do one a -> row", "do all a or b -> c",
                "do all a", "do all -> a", "do new", "do new gone", "do new a b", "do new a -> b", "do new a or b",
                "do give a", "do give a -> gone", "do give a -> b or c", "do give -> a", "do give a or a -> b",
                "do take a", "do take a -> gone", "do take a or b -> c", "do take -> a", "do join a", "do join -> a",
                "do join join", "do a", "do a -> b", "do hold", "do look a = 0", "do do new a", "do new a then",
                "do then new a", "do new a then then new b", "do new a and new b", "do new a, new b",
                "do new a if", "do if a = 0", "do new a if a = 0 if b = 0", "do new a if a = 0 then new b",
                "do new a then if a = 0", "do new a if a", "do new a if other a = 0", "do row a -> b if other a = 0",
                "do one a -> b if a = 0 and other a = 0", "do join if other row a", "do join if other other a = 0",
                "do join if other a + other b = 0", "do join if other", "do new a if a = 0 and",
                "do row a -> b then row b -> c", "do row a -> b then give b -> c", "do give a -> b then row a -> c",
                "do give a -> b then give b -> c", "do give a -> b then take a -> b", "do take a -> b then join",
                "do join then join", "do take a -> b then take a -> b", "do give a -> b then join", "new a", "join",
                "row a -> b", "one a -> b", "DO new a", "do New a", "do new A", "do new a1", "do new abcdefghi",
                "do new a\n", "\ndo new a", "do new\na", "do\tnew a", "do new a.", "do new +", "do new 1"):
            self.assertFalse(is_line(line), line)
            self.assertFalse(self.is_good(line), line)

    def test_barred_words_are_no_kinds(self):
        for word in BARRED:
            for line in (f"look row {word}", f"look row a or {word}", f"look {word} = 0", f"look a + {word} = 0",
                         f"do row {word} -> a", f"do row a or {word} -> a", f"do one {word} -> a", f"do all {word} -> a",
                         f"do new {word}", f"do give {word} -> a", f"do give a -> {word}", f"do take {word} -> a",
                         f"do take a -> {word}"):
                self.assertFalse(self.is_good(line), line)
            for head in ("row", "one", "all"):
                self.assertEqual(self.is_good(f"do {head} a -> {word}"), word == "gone")
            self.assertTrue(self.is_good(f"do new {word[:3]}x then one x{word[:3]} -> gone"))

    def test_at_most_four_tests_and_parts(self):
        for many in range(1, 7):
            good = many <= 4
            tests = " and ".join(["a = 0"] * many)
            self.assertEqual(self.is_good(f"look {tests}"), good)
            self.assertEqual(self.is_good(f"do new a if {tests}"), good)
            self.assertEqual(self.is_good("do " + " then ".join(["new a"] * many)), good)
            self.assertEqual(self.is_good("do " + " then ".join(["new a"] * many) + f" if {tests}"), good)

    def test_many_kinds(self):
        kinds = [f"{one}{two}" for one in "ab" for two in "ghijkl"]
        self.assertTrue(self.is_good("look row " + " or ".join(kinds)))
        self.assertTrue(self.is_good("look " + " + ".join(kinds) + " = 0"))
        self.assertFalse(self.is_good("look " + " + ".join(kinds + kinds[:1]) + " = 0"))

    def test_every_space_counts(self):
        for line in GOOD_LINES:
            for at, sign in enumerate(line):
                if sign == " ":
                    for changed in (line[:at] + " " + line[at:], line[:at] + "\n" + line[at + 1:]):
                        self.assertFalse(self.is_good(changed), changed)
            for changed in (line + " ", " " + line, line + "\n", "\n" + line):
                self.assertFalse(self.is_good(changed), changed)

    def test_missing_and_doubled_and_exchanged_tokens(self):
        dice = random.Random(5)
        tokens = BARRED + SIGNS + ["a", "b", "c", "+", "->", "0", "9", "", "A", "10"]
        for line in GOOD_LINES:
            parts = line.split(" ")
            for at in range(len(parts)):
                changes = [parts[:at] + parts[at + 1:], parts[:at + 1] + parts[at:]]
                changes += [parts[:at] + [token] + parts[at + 1:] for token in tokens]
                changes += [parts[:at] + [token] + parts[at:] for token in tokens]
                for changed in changes:
                    self.assertEqual(self.is_good(" ".join(changed)), is_line(" ".join(changed)), changed)
        for _ in range(20000):
            changed = dice.choice(["look", "do", "hold"]) + "".join(
                " " + dice.choice(["a", "b", "row a", "a = 0", "->", "and", "then", "new a", "if", "or", "join", "other",
                                   "gone", "one a -> b", "+", "take a -> b"]) for _ in range(dice.randrange(5)))
            self.assertEqual(self.is_good(changed), is_line(changed), changed)

    def test_any_value(self):
        for value in odd_values() + [1, ["do new a"], ("do new a",), b"hold", Door("d", "do new a"), "do new a " * 300]:
            with self.assertRaises(BadDoor) as caught:
                Door("d", "do new a", value, "do new b")
            self.assertEqual(caught.exception.at, 1)


class TestMaking(unittest.TestCase):

    def at(self, wanted, name, *lines):
        with self.assertRaises(BadDoor) as caught:
            Door(name, *lines)
        self.assertEqual(caught.exception.at, wanted, (name, lines))
        with self.assertRaises(BadDoor) as caught:
            Door.of(name, list(lines))
        self.assertEqual(caught.exception.at, wanted, (name, lines))

    def test_names(self):
        for name in ("a", "mark", "abcdefgh", "hold", "row", "gone"):
            self.assertEqual(Door(name, "do new a").name, name)
        for name in odd_values() + [1, ("a",), ["a"], b"a", "a\n", "\u00e4", "A"]:
            self.at(-1, name, "do new a")
            self.at(-1, name)
            self.at(-1, name, "no line")

    def test_the_first_wrong_line(self):
        self.at(0, "d", "no", "no", "do new a")
        self.at(1, "d", "do new a", "no", "no")
        self.at(2, "d", "look a = 0", "do new a", None)
        self.at(5, "d", *["do new a"] * 5, "no")
        self.at(6, "d", *["do new a"] * 6, "no")
        self.at(1, "d", "hold", True, "hold")

    def test_no_lines_and_many(self):
        self.at(0, "d")
        for many in range(1, 7):
            self.assertEqual(len(Door("d", *["do new a"] * many)), many)
        self.at(7, "d", *["do new a"] * 7)
        self.at(3000, "d", *["do new a"] * 3000)

    def test_no_do(self):
        self.at(1, "d", "hold")
        self.at(1, "d", "look a = 0")
        self.at(2, "d", "hold", "look a = 0")

    def test_two_lines_hold(self):
        self.at(3, "d", "hold", "hold", "do new a")
        self.at(3, "d", "hold", "do new a", "hold")
        self.assertEqual(len(Door("d", "do new a", "hold")), 2)

    def test_two_lines_that_touch(self):
        touching = ["do give a -> b", "do take a -> b", "do join"]
        for one, two in itertools.product(touching, touching):
            self.at(2, "d", one, two)
            self.at(3, "d", one, "do new a", two)
        for one in touching:
            self.assertIs(Door("d", "do new a", one, "do row a -> b").touches, True)

    def test_of(self):
        lines = ["look a = 0", "do new a"]
        door = Door.of("d", lines)
        self.assertEqual(door, Door("d", "look a = 0", "do new a"))
        self.assertEqual(lines, ["look a = 0", "do new a"])
        lines.append("hold")
        lines[0] = "no line"
        self.assertEqual(door.lines, ("look a = 0", "do new a"))
        self.assertEqual(Door.of(name="d", lines=("do new a",)).lines, ("do new a",))

    def test_of_what_is_no_list(self):
        for value in (None, True, 1, "hold", Counts(a=1), AtMost(1, "a")):
            with self.assertRaises(BadDoor) as caught:
                Door.of("d", value)
            self.assertEqual(caught.exception.at, 0)
            with self.assertRaises(BadDoor) as caught:
                Door.of("D", value)
            self.assertEqual(caught.exception.at, -1)


class TestSaying(unittest.TestCase):

    def test_attributes(self):
        door = Door("mark", "look main = 0", "do row plain -> main")
        self.assertEqual((door.name, door.lines), ("mark", ("look main = 0", "do row plain -> main")))
        self.assertIs(door.lines.__class__, tuple)
        self.assertEqual((door.names_row, door.touches), (True, False))

    def test_names_row(self):
        for line, wanted in (("look row a", True), ("do row a -> b", True), ("do give a -> b", True),
                             ("do new a if row a", True), ("do new a then new b if b = 0 and row a", True),
                             ("hold", False), ("look a = 0", False), ("do one a -> b", False),
                             ("do take a -> b", False), ("do join", False), ("do new rows", False),
                             ("do join if other gives = 1", False)):
            self.assertIs(door_of(line).names_row, wanted, line)
            self.assertIs(Door("d", "do new a", line).names_row, wanted, line)

    def test_touches(self):
        for line, wanted in (("do give a -> b", True), ("do take a -> b", True), ("do join", True),
                             ("do new a then join", True), ("do row a -> b", False), ("look row a", False),
                             ("hold", False), ("do new taken then one joins -> gives", False)):
            self.assertIs(door_of(line).touches, wanted, line)
            self.assertIs(Door("d", "do new a", line).touches, wanted, line)

    def test_mentioned(self):
        door = Door("d", "look zz + y = 0 and row x or w", "do row v -> u then one t -> gone then all s -> r then new q",
                    "do give p or o -> n if other m + zz = 1 and b >= 0", "hold")
        self.assertEqual(door.mentioned(), sorted("zz y x w v u t s r q p o n m b".split()))
        self.assertEqual(Door("d", "do take c -> b").mentioned(), ["b", "c"])
        self.assertEqual(Door("d", "hold", "do join").mentioned(), [])
        self.assertEqual(Door("d", "do new ab then new b then new abc then new a").mentioned(), ["a", "ab", "abc", "b"])

    def test_mentioned_is_new(self):
        door = Door("d", "do new a")
        door.mentioned().append("b")
        self.assertEqual(door.mentioned(), ["a"])

    def test_len_and_str(self):
        door = Door("mark", "look main = 0", "do row plain -> main")
        self.assertEqual(len(door), 2)
        self.assertEqual(str(door), "door mark\nlook main = 0\ndo row plain -> main")
        self.assertEqual(str(Door("d", "do join")), "door d\ndo join")

    def test_equal(self):
        doors = [Door("d", "do new a"), Door("e", "do new a"), Door("d", "do new b"), Door("d", "do new a", "hold"),
                 Door("d", "hold", "do new a"), Door("d", "do new a then new b"), Door("d", "do new b then new a"),
                 Door("d", "do new a", "do new a")]
        for one, other in itertools.product(doors, doors):
            self.assertIs(one == other, one is other)
            self.assertIs(one != other, one is not other)
        self.assertEqual(doors[0], Door.of("d", ["do new a"]))

    def test_other_values(self):
        door = Door("d", "do new a")
        for value in odd_values() + ["door d\ndo new a", "d", ("do new a",)]:
            self.assertIs(door == value, False)
            self.assertIs(value == door, False)
            self.assertIs(door != value, True)

    def test_an_object_that_is_equal_to_all(self):
        class Same:
            def __eq__(self, other):
                return True
        self.assertIs(Door("d", "do new a") == Same(), False)
