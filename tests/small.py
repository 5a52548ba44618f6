"""Small desks by chance, of which many have few possible standings."""

from countsheld.counts import Counts
from countsheld.desks import Desk
from countsheld.doors import Door
from countsheld.errors import BadDoor, Unfit
from countsheld.rules import AtLeast, AtMost, Between, Exactly, Rules
from test_model import a_line

RULES = [
    [Exactly(1, "a"), AtMost(2, "b")],
    [Between(1, 2, "a", "b"), AtMost(2, "b"), AtMost(2, "a")],
    [AtMost(2, "a"), AtMost(1, "b")],
    [AtMost(1, "a", "b"), AtLeast(0, "b", "a")],
    [AtMost(2, "a", "b"), AtLeast(1, "b", "a")],
]


def small_desk(dice, most_doors=3, most_lines=3):
    """Return a desk of few doors with few lines; its owners begin with one row of `a`."""
    rules = Rules.of(dice.choice(RULES), dice.choice([["c"], ["c"], []]))
    doors = []
    for name in "def"[:dice.randrange(1, most_doors + 1)]:
        doors.append(a_door(dice, rules, name, most_lines))
    begins = [Counts(a=1)]
    if dice.random() < 0.3 and Counts(b=1) in rules:
        begins.append(Counts(b=1))
    store = dice.choice([[], [], [0], [1], [1, 0]])
    return Desk(rules, doors, begins, limit=dice.choice([1, 1, 2, 2, 3]), store=store)


def a_door(dice, rules, name, most_lines):
    while True:
        lines = [a_line(dice) for _ in range(dice.randrange(1, most_lines + 1))]
        try:
            made = Door.of(name, lines)
            Desk(rules, [made], [Counts(a=1)])
        except (BadDoor, Unfit):
            continue
        return made
