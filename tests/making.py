"""Desks and books for the tests."""

from countsheld.books import Book
from countsheld.counts import Counts
from countsheld.desks import Desk
from countsheld.doors import Door
from countsheld.errors import Refused
from countsheld.rules import AtMost, Rules

RULES = Rules(AtMost(9, "a"), AtMost(9, "b"), loose=["x", "y"])


def door(name, lines):
    """Return a door of lines with a slash between two."""
    return Door.of(name, lines.split(" / "))


def desk(rules=RULES, begins=(Counts(),), limit=3, store=(), **doors):
    """Return a desk; doors are given by name, with a slash between two lines."""
    return Desk(rules, [door(name, lines) for name, lines in doors.items()], list(begins), limit=limit, store=store)


def book_of(*owners, **named):
    """Return a book whose owners have rows of these kinds, numbered from 0 in the order given."""
    book = Book(desk(**named))
    for kinds in owners:
        number = book.add_owner()
        for kind in kinds.split():
            book.come(number, "x")
            row = len(book[number]) - 1
            if kind != "x":
                book[number][row] = kind
    return book


def rows(book, number):
    """Return the rows of an owner as a string: each number and kind."""
    owner = book[number]
    pairs = [(row, kind) for kind in ("a", "b", "x", "y") for row in owner.numbers_of(kind)]
    return " ".join(f"{row}{kind}" for row, kind in sorted(pairs))


def refusal(act, *arguments, **named):
    """Return (door, line, why) with which the call is refused, or None."""
    try:
        act(*arguments, **named)
    except Refused as error:
        return error.door, error.line, error.why
    return None
