"""Values of every kind that "any value" allows, none of which is what is asked for."""

from countsheld.counts import Counts
from countsheld.errors import BadWord
from countsheld.rules import AtMost, Rules


def nested(depth):
    """Return a list in a tuple in a list .., so deep."""
    made = 1
    for at in range(depth):
        made = [made] if at % 2 else (made,)
    return made


def odd_values():
    """Return values that are no word, no kind, no integer, no rule and no pair."""
    return [
        None, True, False, "", " ", "\n", "Main", "main ", " main", "ma in", "main\n", "main1",
        "abcdefghi", "x" * 3000, "-", "~", "1", [], (), [1], (1,), ["main"], ("main",), ("main", True),
        [("main", 1)], [[]], [()], ((),), nested(10), list(range(3000)), tuple(range(3000)),
        [None] * 3000, Counts(), Counts(main=1), AtMost(1, "main"), Rules(AtMost(1, "main")),
        BadWord("main"),
    ]


def odd_numbers():
    """Return values that are no integer of at most thirty digits."""
    return odd_values() + ["0", 10 ** 30, -10 ** 30, 10 ** 39, -10 ** 39, (1, 1)]
