"""Histories: events of a book, one after another."""

from countsheld.books import Book
from countsheld.counts import Counts
from countsheld.errors import (
    BadHistory, Full, Named, NoBegin, NoDoor, NoOwner, NoPick, NoRow, NotLoose, Over, Refused, Waits,
)

_MOST = 4000
_LENGTHS = {"owner": 2, "come": 3, "leave": 3, "call": 6, "go": 4}


class Run:
    """A history that was played: its book, its first event that breaks a rule, its refused events."""

    def __init__(self, book, ruled, record):
        breaking = [at for at, happened in enumerate(record) if happened.breaks]
        refused = [(at, *happened.refusal) for at, happened in enumerate(record) if happened.refusal]
        self.book = book
        self.breach = breaking[0] if breaking else None
        self.refused = tuple(refused)
        self._ruled = ruled
        # For each event the numbers of the owners that it concerns; None for one that exists no longer.
        self._changes = [happened.behind for happened in record]

    def counts_after(self, at):
        """Return a list of (owner, counts) of the owners that live behind this event, ascending."""
        latest = {}
        for behind in self._changes[:at + 1]:
            for owner, numbers in behind:
                latest[owner] = numbers
        # Owners are added in ascending order, and each is concerned when it is added.
        return [
            (owner, Counts.of(list(zip(self._ruled, numbers))))
            for owner, numbers in latest.items() if numbers is not None
        ]

    def __len__(self):
        return len(self._changes)


class Happened:
    """What is known of an event behind it."""

    def __init__(self, behind, breaks, refusal):
        self.behind = behind
        self.breaks = breaks
        self.refusal = refusal


def play(desk, history):
    """Play any value as a history in a new book at the desk; return the run."""
    if not isinstance(history, (list, tuple)) or len(history) > _MOST:
        raise BadHistory(-1)
    book = Book(desk)
    record = []
    for at, event in enumerate(history):
        happened = _happen(book, event)
        if happened is None:
            raise BadHistory(at)
        record.append(happened)
    return Run(book, desk.rules.kinds, record)


def _happen(book, event):
    """Let any value happen; return what is known of it, or None if it is not a possible event."""
    if not _is_event(event):
        return None
    action = _ACTIONS[event[0]]
    try:
        done = action(book, event)
    except (NoBegin, NoDoor, NoOwner, NoRow, NotLoose, Named, Full, Waits, NoPick, Over):
        return None
    concerned, refusal = done
    living = [owner for owner in concerned if owner in book]
    broken = [owner for owner in living if book.desk.rules.broken(book[owner].counts())]
    behind = [(owner, _numbers_of(book, owner)) for owner in concerned]
    return Happened(behind, bool(broken), refusal)


def _is_event(value):
    """Tell whether any value has the form of an event."""
    if not isinstance(value, tuple) or len(value) == 0 or not isinstance(value[0], str):
        return False
    if value[0] not in _LENGTHS or len(value) != _LENGTHS[value[0]]:
        return False
    return value[0] not in ("call", "go") or isinstance(value[-1], (list, tuple))


def _numbers_of(book, owner):
    if owner not in book:
        return None
    return book.desk.rules.numbers(book[owner].counts())


def _add(book, event):
    return [book.add_owner(event[1])], None


def _come(book, event):
    book.come(event[1], event[2])
    return [event[1]], None


def _leave(book, event):
    book.leave(event[1], event[2])
    return [event[1]], None


def _call(book, event):
    _, door, owner, row, other, picks = event
    try:
        book.begin(door, owner, row=row, other=other, picks=picks)
    except Refused as e:
        return _concerned(owner, other), (e.line, e.why)
    return _concerned(owner, other), None


def _go(book, event):
    _, number, other, picks = event
    call = book.call(number)
    try:
        call.go_on(other=other, picks=picks)
    except Refused as e:
        return _concerned(call.owner, other), (e.line, e.why)
    return _concerned(call.owner, other), None


def _concerned(home, other):
    return [home] if other is None else [home, other]


_ACTIONS = {"owner": _add, "come": _come, "leave": _leave, "call": _call, "go": _go}
