"""Looking at certificates, tables, ways and traces that anyone may have written."""

from countsheld.crowds import Crowd
from countsheld.standings import alone, at_rest, is_standing, meeting
from countsheld.words import is_index


class Looker:
    """Looks at the lines of ways and traces; it keeps what it has worked out."""

    def __init__(self, desk):
        self.used_desk = desk
        self._first = [at_rest(desk, begin) for begin in desk.begins()]
        self._alone_by_standing = {}
        self._pairs_by_two = {}

    def is_line(self, lines, at):
        """Tell whether any value, at this index, is a line of a way, or the last one of a trace."""
        line = lines[at]
        if not isinstance(line, tuple) or len(line) != 4 or not is_standing(self.used_desk, line[0]):
            return False
        standing, role, source, partner = line
        if not self.is_within(standing) and at + 1 < len(lines):
            return False
        if role == "begin":
            return partner is None and is_index(source, len(self._first)) and standing == self._first[source]
        if role == "alone":
            return partner is None and is_index(source, at) and self._is_next(lines[source][0], standing)
        if role not in ("home", "other") or not is_index(source, at) or not is_index(partner, at):
            return False
        return self._is_part(role, lines[source][0], lines[partner][0], standing)

    def is_within(self, standing):
        """Tell whether the standing is within the rules."""
        return self.used_desk.rules.includes(standing[0])

    def _is_next(self, before, standing):
        if before not in self._alone_by_standing:
            self._alone_by_standing[before] = {one: True for one in alone(self.used_desk, before)}
        return standing in self._alone_by_standing[before]

    def _is_part(self, role, before, partner, standing):
        """Tell whether the standing is this part of a pair; the other part has to be within the rules, too.

        Behind a standing that is not, as the last line of a trace, it may be anything.
        """
        two = (before, partner) if role == "home" else (partner, before)
        if two not in self._pairs_by_two:
            self._pairs_by_two[two] = meeting(self.used_desk, two[0], two[1])
        mine = 0 if role == "home" else 1
        beside = [pair[1 - mine] for pair in self._pairs_by_two[two] if pair[mine] == standing]
        if not self.is_within(standing):
            return bool(beside)
        return any([one is None or self.is_within(one) for one in beside])


def first_wrong(desk, lines):
    """Return the index of the first line that cannot stand in a way or a trace, or None; -1: there are no lines."""
    if not isinstance(lines, tuple) or len(lines) == 0:
        return -1
    looker = Looker(desk)
    for at in range(len(lines)):
        if not looker.is_line(lines, at):
            return at
    return None


def is_way(desk, thing):
    """Tell whether any value is a way."""
    return first_wrong(desk, thing) is None and _ends_within(desk, thing)


def is_certificate(desk, thing):
    """Tell whether any value shows that the desk is kept, by a table, or broken, by a trace."""
    if not isinstance(thing, tuple) or len(thing) != 2:
        return False
    word, shown = thing
    if word == "kept":
        return _is_table(desk, shown)
    if word != "broken":
        return False
    return first_wrong(desk, shown) is None and not _ends_within(desk, shown)


def _ends_within(desk, lines):
    return desk.rules.includes(lines[-1][0][0])


def _is_table(desk, thing):
    if not isinstance(thing, tuple) or not all([is_standing(desk, one) for one in thing]):
        return False
    known = {standing: True for standing in thing}
    first = [at_rest(desk, begin) for begin in desk.begins()]
    if not all([desk.rules.includes(numbers) for numbers, _ in known]):
        return False
    if not all([standing in known for standing in first]):
        return False
    crowd = Crowd(desk)
    for standing in known:
        if not all([step[0] in known for _, step in crowd.admit(standing)]):
            return False
    return True
