"""Books against the plain model of tests/model.py: many desks, many histories, every event."""

import random
import unittest

from countsheld import errors
from countsheld.books import Book
from countsheld.counts import Counts
from countsheld.desks import Desk
from countsheld.doors import Door
from countsheld.errors import BadDoor, BadHistory, Unfit
from countsheld.histories import play
from countsheld.rules import AtLeast, AtMost, Between, Exactly, Rules
from model import Model, Wrong

RULED, LOOSE = ["a", "b"], ["c"]
RULES = [
    [Exactly(1, "a"), AtMost(2, "b")],
    [Between(1, 3, "a", "b"), AtMost(2, "b"), AtMost(2, "a")],
    [AtMost(2, "a", "b"), AtLeast(1, "b", "a")],
]
FIELDS = {
    "NoBegin": ["index"], "NoOwner": ["owner"], "NotLoose": ["kind"], "NoRow": ["row"], "Named": ["row"],
    "NoDoor": ["name"], "Full": ["owner"], "Over": ["number"], "Waits": ["owner"], "NoPick": ["pick"],
}


def some_kinds(dice, kinds):
    return dice.sample(kinds, dice.choice([1, 1, 2]))


def a_test(dice, touching):
    if dice.random() < 0.25:
        return "row " + " or ".join(some_kinds(dice, RULED + LOOSE))
    whose = "other " if touching and dice.random() < 0.5 else ""
    number = dice.choice([0, 0, 1, 1, 2])
    return f"{whose}{' + '.join(some_kinds(dice, RULED))} {dice.choice(['<', '<=', '=', '!=', '>=', '>'])} {number}"


def a_part(dice):
    kinds = RULED + LOOSE
    after = dice.choice(kinds + ["gone"])
    return dice.choice([
        f"row {' or '.join(some_kinds(dice, kinds))} -> {after}",
        f"one {dice.choice(kinds)} -> {after}",
        f"all {dice.choice(RULED)} -> {after}",
        f"new {dice.choice(kinds)}",
        f"give {' or '.join(some_kinds(dice, kinds))} -> {dice.choice(kinds)}",
        f"take {dice.choice(kinds)} -> {dice.choice(kinds)}",
        "join",
    ])


def a_line(dice):
    roll = dice.random()
    if roll < 0.15:
        return "hold"
    if roll < 0.4:
        return "look " + " and ".join(a_test(dice, False) for _ in range(dice.choice([1, 1, 2])))
    parts = [a_part(dice) for _ in range(dice.choice([1, 1, 2, 3]))]
    tests = [a_test(dice, True) for _ in range(dice.choice([0, 0, 0, 1, 2]))]
    return "do " + " then ".join(parts) + (" if " + " and ".join(tests) if tests else "")


def a_desk(dice):
    """Return a desk by chance, and the model of the same."""
    rules = Rules.of(dice.choice(RULES), LOOSE)
    doors = {}
    while len(doors) < 4:
        lines = [a_line(dice) for _ in range(dice.choice([1, 2, 2, 3]))]
        try:
            Desk(rules, [Door.of("x", lines)], [Counts(a=1)])
        except (BadDoor, Unfit):
            continue
        doors["defg"[len(doors)]] = lines
    begins = [{"a": 1}, {"a": 1, "b": 1}]
    limit, store = dice.choice([1, 2, 3]), dice.choice([[], [], [1], [1, 0]])
    desk = Desk(rules, [Door.of(name, lines) for name, lines in doors.items()],
                [Counts(**begin) for begin in begins], limit=limit, store=store)
    listed = [(rule.least, rule.most, rule.kinds) for rule in rules.listed]
    return desk, Model(listed, LOOSE, doors, begins, limit, store)


def an_event(dice, model):
    """Return an event by chance, most of them possible."""
    owner = dice.choice(list(range(model.added)) + [model.added, True, None] if dice.random() < 0.05
                        else sorted(model.owners) or [0])
    rows = [row for row, _ in model.owners[owner]["rows"]] if owner in model.owners and owner is not True else []
    row = dice.choice(rows + [97, True]) if dice.random() < 0.05 or not rows else dice.choice(rows)
    others = [one for one in model.owners if one != owner] or [0]
    picks = [dice.choice([0, 1, 2, 3, 4, True]) for _ in range(dice.choice([0, 0, 0, 1, 2]))]
    roll = dice.random()
    if roll < 0.05 or not model.owners:
        return "owner", dice.choice([0, 1, 1, 2, True]) if roll < 0.01 else dice.choice([0, 1])
    if roll < 0.15:
        return "come", owner, dice.choice(["c", "c", "c", "a"])
    if roll < 0.2:
        return "leave", owner, row
    going = [at for at, call in enumerate(model.calls) if call["open"]]
    if roll < 0.55 or not going:
        name = dice.choice(sorted(model.doors))
        text = " ".join(model.doors[name])
        named = row if "row" in text or "give" in text else None
        told = any(word in model.doors[name][0] for word in ("give", "take", "join"))
        other = dice.choice(others) if told else None
        if dice.random() < 0.05:
            name, named, other = dice.choice([("z", named, other), (name, None, other), (name, named, 0)])
        return "call", name, owner, named, other, picks
    number = dice.choice(going)
    line = model.doors[model.calls[number]["door"]][model.calls[number]["at"]]
    told = any(word in line for word in ("give", "take", "join"))
    others = [one for one in model.owners if one != model.calls[number]["home"]] or [0]
    if dice.random() < 0.05:
        return "go", dice.choice([0, number, 99, True]), dice.choice([None, True, owner]), picks
    return "go", number, dice.choice(others) if told else None, picks


def in_book(book, event):
    """Do the event; return what it gave, in the terms of the model."""
    word, *arguments = event
    try:
        if word == "owner":
            return [book.add_owner(*arguments)], None
        if word == "come":
            book.come(*arguments)
            return [arguments[0]], None
        if word == "leave":
            book.leave(*arguments)
            return [arguments[0]], None
        if word == "call":
            door, owner, row, other, picks = arguments
            home = owner
            book.begin(door, owner, row=row, other=other, picks=picks)
        else:
            number, other, picks = arguments
            call = book.call(number)
            home = call.owner
            call.go_on(other=other, picks=picks)
        refusal = None
    except errors.Refused as error:
        refusal = (error.line, error.why)
    except tuple(getattr(errors, name) for name in FIELDS) as error:
        name = type(error).__name__
        raise Wrong(name, *[getattr(error, field) for field in FIELDS[name]])
    return [home] + ([] if other is None else [other]), refusal


def seen(book, calls):
    """What can be seen of the book, in the terms of the model, but for the next row numbers."""
    owners = {}
    for number in book.owners():
        owner = book[number]
        owners[number] = sorted((row, kind) for kind in RULED + LOOSE for row in owner.numbers_of(kind))
    told = [book.call(at) for at in range(calls)]
    return owners, [(call.door, call.owner, call.row, call.next_line, call.is_open) for call in told]


class TestAgainstTheModel(unittest.TestCase):

    def outcome(self, act, *arguments):
        try:
            return act(*arguments), None
        except Wrong as error:
            return None, error.args

    def same_state(self, book, model):
        owners, calls = model.state()
        found = seen(book, len(model.calls))
        self.assertEqual(found, ({number: rows for number, (rows, _) in owners.items()}, calls))
        with self.assertRaises(errors.Over):
            book.call(len(model.calls))
        for number in owners:
            wanted = [at for at, call in enumerate(calls) if call[1] == number and call[4]]
            self.assertEqual(book.under_way(number), wanted)
        wanted = [(number, at) for number, owner in sorted(model.owners.items())
                  for at in range(len(model.rules)) if not model.rule_holds(at, owner)]
        self.assertEqual(book.broken(), wanted)

    def setUp(self):
        self.errors = set()

    def one_history(self, seed):
        dice = random.Random(seed)
        desk, model = a_desk(dice)
        book = Book(desk)
        happened = []
        for _ in range(60):
            event = an_event(dice, model)
            wanted, wrong = self.outcome(model.happen, event)
            found, error = self.outcome(in_book, book, event)
            shown = (seed, event, str(desk))
            self.assertEqual((found, error), (wanted, wrong), shown)
            if wrong is not None:
                self.errors.add(wrong[0])
                self.assertEqual([type(one) for one in error], [type(one) for one in wrong], shown)
            self.same_state(book, model)
            if wrong is None:
                happened.append((event, wanted, bool(self.breaks(model, wanted[0])), self.counts(model)))
            elif len(happened) % 7 == 0:
                with self.assertRaises(BadHistory) as caught:
                    play(desk, [one[0] for one in happened] + [event, event])
                self.assertEqual(caught.exception.at, len(happened))
        self.same_run(play(desk, [one[0] for one in happened]), happened)
        return happened

    def breaks(self, model, concerned):
        return [owner for owner in concerned if owner in model.owners
                for at in range(len(model.rules)) if not model.rule_holds(at, model.owners[owner])]

    def counts(self, model):
        return [(number, Counts.tally([kind for _, kind in owner["rows"] if kind in RULED]))
                for number, owner in sorted(model.owners.items())]

    def same_run(self, run, happened):
        self.assertEqual(len(run), len(happened))
        refused = [(at, *one[1][1]) for at, one in enumerate(happened) if one[1][1]]
        self.assertEqual(run.refused, tuple(refused))
        breaking = [at for at, one in enumerate(happened) if one[2]]
        self.assertEqual(run.breach, breaking[0] if breaking else None)
        for at, one in enumerate(happened):
            self.assertEqual(run.counts_after(at), one[3])

    def test_many_histories(self):
        whys, breaches, joined = set(), 0, 0
        for seed in range(250):
            happened = self.one_history(seed)
            whys.update(one[1][1][1][0] for one in happened if one[1][1])
            breaches += any(one[2] for one in happened)
            joined += any(len(one[3]) < len(two[3]) for two, one in zip(happened, happened[1:]))
        # Without these the histories would tell little.
        self.assertEqual(whys, {"test", "part", "rule"})
        self.assertEqual(self.errors, set(FIELDS))
        self.assertGreater(breaches, 50)
        self.assertGreater(joined, 30)
