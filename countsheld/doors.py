"""Doors: the handlers that change the rows of owners, line by line."""

from countsheld.errors import BadDoor
from countsheld.lines import kinds_of, read_line
from countsheld.words import is_word


class Door:
    """A door: its name and its lines, as they are written."""

    def __init__(self, name, *lines):
        if not is_word(name):
            raise BadDoor(-1)
        steps = [read_line(line) for line in lines]
        _check_lines(steps)
        touching = [at for at, step in enumerate(steps) if step.touches]
        self.name = name
        self.lines = tuple(lines)
        self.names_row = any([step.names_row for step in steps])
        self.touches = bool(touching)
        # What was read from each line, and the index of the line that touches, or None.
        self.steps = tuple(steps)
        self.touching = touching[0] if touching else None

    @classmethod
    def of(cls, name, lines):
        """Return the door of a list of lines."""
        # Any other value has no lines.
        listed = lines if isinstance(lines, (list, tuple)) else ()
        return cls(name, *listed)

    def mentioned(self):
        """Return a list of all kinds in the door, ascending."""
        found = {}
        for step in self.steps:
            for kind in kinds_of(step):
                found[kind] = True
        return sorted(found, key=str)

    def __call__(self, book, owner, row=None, other=None, picks=()):
        # The book's door may have other lines than this one.
        touching = book.desk[self.name].touching
        first = other if touching == 0 else None
        call = book.begin(self.name, owner, row=row, other=first, picks=picks)
        while call.is_open:
            told = other if call.next_line == touching else None
            call.go_on(other=told, picks=picks)
        return call.number

    def __len__(self):
        return len(self.lines)

    def __eq__(self, other):
        return isinstance(other, Door) and self.name == other.name and self.lines == other.lines

    def __str__(self):
        return "\n".join([f"door {self.name}", *self.lines])


def _check_lines(steps):
    """Raise BadDoor unless these are the lines of a door; None is one that is not written well."""
    for at, step in enumerate(steps):
        if step is None:
            raise BadDoor(at)
    words = [step.word for step in steps]
    touching = [step for step in steps if step.touches]
    if not 1 <= len(steps) <= 6 or "do" not in words:
        raise BadDoor(len(steps))
    if words.count("hold") > 1 or len(touching) > 1:
        raise BadDoor(len(steps))
