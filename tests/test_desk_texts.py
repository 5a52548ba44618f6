"""Desks as texts: written and read (15)."""

import unittest

from countsheld.counts import Counts
from countsheld.desks import Desk
from countsheld.doors import Door
from countsheld.errors import BadDesk, BadDoor, BadRule, BadRules, BadText, Unfit
from countsheld.rules import AtLeast, AtMost, Between, Exactly, Rules
from odd import odd_values

TEXT = """rule exactly 1 main
rule at most 2 spare
loose gray
loose plain
begin main 1
begin main 1 spare 2
limit 2
store 0
store 1
door mark
look main = 0
do row plain -> main
door make
do new plain"""
LEAST = "rule at most 1 a\nbegin\nlimit 1\ndoor d\ndo new a"


def desk():
    rules = Rules(Exactly(1, "main"), AtMost(2, "spare"), loose=["plain", "gray"])
    doors = [Door("mark", "look main = 0", "do row plain -> main"), Door("make", "do new plain")]
    return Desk(rules, doors, [Counts(main=1), Counts(spare=2, main=1)], limit=2, store=[1, 0])


def changed(text, at, *lines, left=1):
    """Return the text with these lines in the place of so many from the line with this index."""
    rows = text.split("\n")
    rows[at:at + left] = lines
    return "\n".join(rows)


class TestWriting(unittest.TestCase):

    def test_all_sections(self):
        self.assertEqual(str(desk()), TEXT)

    def test_least_sections(self):
        self.assertEqual(str(Desk(Rules(AtMost(1, "a")), [Door("d", "do new a")], [Counts()])), LEAST)

    def test_rules_as_they_were_made(self):
        rules = Rules(Between(0, 3, "b", "a"), AtMost(3, "a"), AtLeast(0, "b"), Exactly(0, "c"))
        text = str(Desk(rules, [Door("d", "do new a")], [Counts(b=3), Counts(a=1, b=2)]))
        self.assertEqual(text, "rule from 0 to 3 b + a\nrule at most 3 a\nrule at least 0 b\nrule exactly 0 c\n"
                               "begin b 3\nbegin a 1 b 2\nlimit 1\ndoor d\ndo new a")


class TestReading(unittest.TestCase):

    def raises(self, error, wanted, text):
        with self.assertRaises(error) as caught:
            Desk.read(text)
        field = "what" if hasattr(caught.exception, "what") else "at"
        self.assertEqual(getattr(caught.exception, field), wanted, repr(text))

    def bad(self, at, text):
        self.raises(BadText, at, text)

    def test_what_is_written(self):
        for text in (TEXT, LEAST):
            self.assertEqual(str(Desk.read(text)), text)
        self.assertEqual(Desk.read(text=TEXT), desk())
        self.assertEqual([rule.__class__ for rule in Desk.read(TEXT).rules.listed], [Exactly, AtMost])

    def test_begin_lines(self):
        for line, begin in (
                ("begin spare 2 main 1", Counts(main=1, spare=2)), ("begin main 1 spare 0", Counts(main=1)),
                ("begin spare 1 main 1 spare 1", Counts(main=1, spare=2)), ("begin main 0 main 1", Counts(main=1)),
                ("begin main 1 other 0 plain 0 hold 0 gone 0", Counts(main=1))):
            self.assertEqual(Desk.read(changed(TEXT, 4, line)).begins()[0], begin, line)
        self.assertEqual(Desk.read(LEAST).begins(), [Counts()])
        self.assertEqual(Desk.read(changed(LEAST, 1, "begin a 0 a 0")).begins(), [Counts()])

    def test_begin_lines_that_are_none(self):
        for line in ("begin ", "begin  main 1", "begin main", "begin main 1 ", "begin main 1  spare 1", "begin main 10",
                     "begin main -1", "begin main 1 spare", "begin main one", "begin 1 main", "begin Main 1", "begin 1",
                     "begin main1", "begin abcdefghi 1", "begin main 1, spare 1", "beginmain 1", " begin", "Begin",
                     "begin main=1", "begin main \u0661"):
            self.bad(4, changed(TEXT, 4, line))

    def test_begins_that_cannot_be(self):
        for line in ("begin", "begin main 2", "begin main 1 other 1", "begin main 1 plain 1", "begin main 1 main 1",
                     "begin main 1 row 1"):
            self.raises(BadDesk, "begins", changed(TEXT, 4, line))
        self.raises(BadDesk, "begins", changed(TEXT, 4, *["begin main 1"] * 4))

    def test_limit_lines(self):
        for limit in (1, 2, 3):
            self.assertEqual(Desk.read(changed(TEXT, 6, f"limit {limit}")).limit, limit)
        for limit in (0, 4, 9):
            self.raises(BadDesk, "limit", changed(TEXT, 6, f"limit {limit}"))
        for line in ("limit", "limit ", "limit  1", "limit 1 ", "limit 10", "limit a", "limit -1", "limit 1 2", "Limit 1",
                     " limit 1", "limit \u00b2", "limits 1"):
            self.bad(6, changed(TEXT, 6, line))

    def test_store_lines(self):
        self.assertEqual(Desk.read(changed(TEXT, 7, "store 1", "store 0", left=2)), desk())
        self.assertEqual(Desk.read(changed(TEXT, 7, "store 1", left=2)).store, (1,))
        self.assertEqual(Desk.read(changed(TEXT, 7, left=2)).store, ())
        self.raises(BadDesk, "store", changed(TEXT, 7, "store 2"))
        self.raises(BadDesk, "store", changed(TEXT, 7, "store 1", "store 1", left=2))
        for line in ("store", "store ", "store  0", "store 0 ", "store 00", "store a", "store 0 1", "store -1"):
            self.bad(8, changed(TEXT, 8, line))

    def test_rule_and_loose_lines(self):
        for line in ("rule", "rule\n", "rules at most 1 a", " rule at most 1 a", "Rule at most 1 a", "at most 1 a"):
            self.bad(1, changed(TEXT, 1, line))
        for line in ("rule ", "rule  at most 1 a", "rule at most 1 a ", "rule at most a", "rule rule"):
            self.raises(BadRule, "text", changed(TEXT, 1, line))
        self.raises(BadRule, "kinds", changed(TEXT, 1, "rule at most 1 hold"))
        self.raises(BadRule, "number", changed(TEXT, 1, "rule from 2 to 1 a"))
        for line in ("loose", "looser plain", " loose plain"):
            self.bad(3, changed(TEXT, 3, line))
        for line in ("loose ", "loose  plain", "loose plain ", "loose gray", "loose main", "loose hold", "loose a b",
                     "loose Plain"):
            self.raises(BadRules, "loose", changed(TEXT, 3, line))

    def test_door_lines(self):
        for name in ("", " mark", "mark ", "Mark", "mark it", "abcdefghi"):
            self.raises(BadDoor, -1, changed(TEXT, 9, "door " + name))
        self.assertIn("door", Desk.read(changed(TEXT, 9, "door door")))
        for line in ("door", "doors mark", " door mark", "Door mark"):
            self.bad(9, changed(TEXT, 9, line))

    def test_lines_of_doors(self):
        for line in ("", "door", "limit 1", "rule at most 1 a", "doors make", " door make", "store 0", "begin"):
            self.raises(BadDoor, 2, changed(TEXT, 12, line))
        self.raises(BadDoor, 0, changed(TEXT, 10, left=2))
        self.raises(BadDoor, 0, changed(TEXT, 13))
        self.raises(BadDoor, 1, changed(TEXT, 11))
        self.raises(BadDoor, 7, changed(TEXT, 13, *["do new plain"] * 7))
        with self.assertRaises(Unfit) as caught:
            Desk.read(TEXT + "\ndoor zz\nhold\ndo new foreign")
        self.assertEqual((caught.exception.door, caught.exception.line), ("zz", 1))
        self.raises(BadDesk, "doors", changed(TEXT, 12, "door mark"))
        self.raises(BadDesk, "doors", TEXT + "".join(f"\ndoor d{letter}\ndo new plain" for letter in "abcde"))

    def test_sections_left_out(self):
        self.bad(0, changed(TEXT, 0, left=2))
        self.assertEqual(Desk.read(changed(TEXT, 0, "rule exactly 1 main", left=1)), desk())
        self.bad(4, changed(TEXT, 4, left=2))
        self.bad(6, changed(TEXT, 6))
        self.bad(9, changed(TEXT, 9, left=1))
        self.bad(9, "\n".join(TEXT.split("\n")[:9]))
        for many in range(1, 10):
            self.bad(many, "\n".join(TEXT.split("\n")[:many]))

    def test_sections_doubled(self):
        self.bad(7, changed(TEXT, 6, "limit 2", "limit 2"))
        self.bad(7, changed(TEXT, 6, "limit 2", "limit 3"))
        self.raises(BadRules, "rules", changed(TEXT, 1, *["rule at most 2 spare"] * 4))
        self.assertEqual(len(Desk.read(changed(TEXT, 1, *["rule at most 2 spare"] * 3)).rules.listed), 4)
        self.raises(BadRules, "loose", changed(TEXT, 2, "loose a", "loose gray"))

    def test_sections_at_another_place(self):
        rows = TEXT.split("\n")
        head = {0: "rule", 2: "loose", 4: "begin", 6: "limit", 7: "store"}
        follow = {"rule": "rule loose begin", "loose": "loose begin", "begin": "begin limit", "limit": "store door",
                  "store": "store door"}
        for at in range(9):
            # The line of another section is put behind the one with this index.
            before = rows[at].split()[0]
            for other, word in head.items():
                if word not in follow[before].split():
                    self.bad(at + 1, "\n".join(rows[:at + 1] + [rows[other]] + rows[at + 1:]))
        for other, word in head.items():
            if word != "rule":
                self.bad(0, "\n".join([rows[other]] + rows))
        self.bad(0, "door d\ndo new plain\n" + TEXT)

    def test_blanks_and_line_feeds(self):
        self.bad(0, "\n" + TEXT)
        self.bad(0, " " + TEXT)
        for at in range(1, 10):
            self.bad(at, changed(TEXT, at, "", left=0))
            self.bad(at, changed(TEXT, at, " ", left=0))
        self.raises(BadDoor, 1, TEXT + "\n")
        self.raises(BadDoor, 0, TEXT + " ")
        self.raises(BadDoor, 1, TEXT + "\n ")
        self.bad(0, TEXT.replace("\n", " \n").replace("rule", " rule"))

    def test_no_text(self):
        self.bad(0, "")
        self.bad(0, "\n")
        self.bad(0, "x" * 20000)
        self.bad(1, "rule at most 1 a\n")
        for value in odd_values() + [1, [TEXT], (TEXT,), TEXT.split("\n"), b"rule", desk(), Rules(AtMost(1, "a"))]:
            if not isinstance(value, str):
                self.bad(-1, value)

    def test_order_of_the_errors(self):
        lines = ["rule no", "rule at most 2 spare", "loose Gray", "loose plain", "begin other 1", "limit 0", "store 5",
                 "door M", "hold", "door make", "do new foreign"]
        self.bad(7, "\n".join(lines[:7]))
        self.bad(7, "\n".join(lines[:7] + [""] + lines[7:]))
        self.raises(BadRule, "text", "\n".join(lines))
        lines[0] = "rule exactly 1 main"
        self.raises(BadRules, "loose", "\n".join(lines))
        lines[2] = "loose gray"
        self.raises(BadDoor, -1, "\n".join(lines))
        lines[7] = "door mark"
        self.raises(BadDoor, 1, "\n".join(lines))
        lines[8] = "do new plain"
        with self.assertRaises(Unfit) as caught:
            Desk.read("\n".join(lines))
        self.assertEqual((caught.exception.door, caught.exception.line), ("make", 0))
        lines[10] = "do new plain"
        self.raises(BadDesk, "begins", "\n".join(lines))
        lines[4] = "begin main 1"
        self.raises(BadDesk, "limit", "\n".join(lines))
        lines[5] = "limit 1"
        self.raises(BadDesk, "store", "\n".join(lines))
        lines[6] = "store 1"
        self.assertEqual(str(Desk.read("\n".join(lines))), "\n".join(lines))
        self.raises(BadRule, "number", changed(TEXT, 0, "rule from 2 to 1 a", "rule x"))
        self.raises(BadRule, "text", changed(TEXT, 0, "rule x", "rule from 2 to 1 a"))
