"""Desks: rules, the doors beside them, and what the store does."""

from countsheld.counts import Counts
from countsheld.doors import Door
from countsheld.errors import BadDesk, BadText, NoDoor, Unfit
from countsheld.headings import begin_of, length_of_head, rest_of
from countsheld.lines import kinds_of
from countsheld.rules import Rules, read_rule
from countsheld.words import is_index, is_number


class Desk:
    """Rules, doors that fit them, the counts of new owners, the limit of calls and the store's rules."""

    def __init__(self, rules, doors, begins, *, limit=1, store=()):
        _check_doors(doors)
        _check_fit(rules, doors)
        _check_begins(rules, begins)
        _check_limit(limit)
        _check_store(rules, store)
        self.rules = rules
        self.doors = tuple(doors)
        self.limit = limit
        self.store = tuple(sorted(store, key=int))
        self._begins = [begin.copy() for begin in begins]

    @classmethod
    def read(cls, text):
        """Return the desk that is written so."""
        if not isinstance(text, str):
            raise BadText(-1)
        lines = text.split("\n")
        head = lines[:length_of_head(lines)]
        listed = [read_rule(rest) for rest in rest_of(head, "rule")]
        rules = Rules.of(listed, rest_of(head, "loose"))
        doors = _read_doors(lines[len(head):])
        begins = [Counts.of(begin_of(rest)) for rest in rest_of(head, "begin")]
        limits = [int(rest) for rest in rest_of(head, "limit")]
        store = [int(rest) for rest in rest_of(head, "store")]
        return cls(rules, doors, begins, limit=limits[0], store=store)

    def varied(self, *, doors=None, limit=None, store=None):
        """Return a new desk in which what is not None is exchanged."""
        return Desk(
            self.rules,
            list(self.doors) if doors is None else doors,
            self._begins,
            limit=self.limit if limit is None else limit,
            store=self.store if store is None else store,
        )

    def begins(self):
        """Return a list of the counts that a new owner may have."""
        return [begin.copy() for begin in self._begins]

    def __getitem__(self, at):
        for door in self.doors:
            if isinstance(at, str) and door.name == at:
                return door
        raise NoDoor(at)

    def __contains__(self, x):
        return isinstance(x, str) and x in [door.name for door in self.doors]

    def __len__(self):
        return len(self.doors)

    def __iter__(self):
        return iter(self.doors)

    def __eq__(self, other):
        if not isinstance(other, Desk) or self.rules != other.rules or self.doors != other.doors:
            return False
        if self.limit != other.limit or self.store != other.store:
            return False
        return self._begins == other._begins

    def __str__(self):
        lines = [f"rule {rule}" for rule in self.rules.listed]
        lines.extend([f"loose {kind}" for kind in self.rules.loose])
        lines.extend([_written_begin(begin) for begin in self._begins])
        lines.append(f"limit {self.limit}")
        lines.extend([f"store {at}" for at in self.store])
        lines.extend([str(door) for door in self.doors])
        return "\n".join(lines)


def _check_doors(doors):
    names = [door.name for door in doors]
    if not 1 <= len(names) <= 6:
        raise BadDesk("doors")
    for at, name in enumerate(names):
        if name in names[:at]:
            raise BadDesk("doors")


def _check_fit(rules, doors):
    for door in doors:
        for at, step in enumerate(door.steps):
            if not _fits(step, rules):
                raise Unfit(door.name, at)


def _fits(step, rules):
    """Tell whether a line fits the rules."""
    known = [*rules.kinds, *rules.loose]
    if not all([kind in known for kind in kinds_of(step)]):
        return False
    counted = []
    for test in step.tests:
        if test.whose != "row":
            counted.extend(list(test.kinds))
    for at, part in enumerate(step.parts):
        if part.word == "all" or (part.word == "one" and at > 0):
            counted.extend(list(part.kinds))
    return all([kind in rules.kinds for kind in counted])


def _check_begins(rules, begins):
    if not 1 <= len(begins) <= 4:
        raise BadDesk("begins")
    for begin in begins:
        if begin not in rules or not all([word in rules.kinds for word in begin.words()]):
            raise BadDesk("begins")


def _check_limit(limit):
    if not is_number(limit) or not 1 <= limit <= 3:
        raise BadDesk("limit")


def _check_store(rules, store):
    if not isinstance(store, (list, tuple)):
        raise BadDesk("store")
    for at, index in enumerate(store):
        if not is_index(index, len(rules.listed)) or index in store[:at]:
            raise BadDesk("store")


def _written_begin(begin):
    return " ".join(["begin", *[f"{kind} {number}" for kind, number in begin.pairs()]])


def _read_doors(lines):
    """Return the doors; the first of the lines is the head of the first door."""
    written = []
    for line in lines:
        if line.startswith("door "):
            written.append([])
        written[-1].append(line)
    return [Door.of(rows[0].removeprefix("door "), rows[1:]) for rows in written]
