"""Changes of desks, and those that make a desk kept."""

from countsheld.doors import Door
from countsheld.errors import BadDesk, BadDoor, NoDoor, NoRule, TooMany, Unfit
from countsheld.judging import is_kept, survey_of
from countsheld.words import is_index

_MOST = 4


class Change:
    """The base class of the changes; it is not called itself."""

    def __init__(self, text):
        self.text = text

    def __call__(self, desk):
        return desk.varied()


class Hold(Change):
    """Put a line `hold` at the beginning of a door, unless it has one."""

    def __init__(self, door):
        Change.__init__(self, f"Hold {door}")
        self._name = door

    def __call__(self, desk):
        lines = list(desk[self._name].lines)
        if "hold" in lines:
            return _with_lines(desk, self._name, lines)
        return _with_lines(desk, self._name, ["hold", *lines])


class Look(Change):
    """Put a line `look` at the beginning of a door, behind `hold` if that is its first line."""

    def __init__(self, door, tests):
        Change.__init__(self, f"Look {door} {tests}")
        self._name = door
        self._tests = tests

    def __call__(self, desk):
        lines = list(desk[self._name].lines)
        at = 1 if lines[0] == "hold" else 0
        return _with_lines(desk, self._name, [*lines[:at], f"look {self._tests}", *lines[at:]])


class Demand(Change):
    """Put tests behind those of the last line `do` of a door."""

    def __init__(self, door, tests):
        Change.__init__(self, f"Demand {door} {tests}")
        self._name = door
        self._tests = tests

    def __call__(self, desk):
        lines = list(desk[self._name].lines)
        at = _last_do(lines)
        sign = "and" if " if " in lines[at] else "if"
        lines[at] = f"{lines[at]} {sign} {self._tests}"
        return _with_lines(desk, self._name, lines)


class Help(Change):
    """Put a part ahead of the parts of the last line `do` of a door."""

    def __init__(self, door, part):
        Change.__init__(self, f"Help {door} {part}")
        self._name = door
        self._part = part

    def __call__(self, desk):
        lines = list(desk[self._name].lines)
        at = _last_do(lines)
        rest = lines[at].removeprefix("do ")
        lines[at] = f"do {self._part} then {rest}"
        return _with_lines(desk, self._name, lines)


class After(Change):
    """Put a line `do` with a part at the end of a door."""

    def __init__(self, door, part):
        Change.__init__(self, f"After {door} {part}")
        self._name = door
        self._part = part

    def __call__(self, desk):
        lines = list(desk[self._name].lines)
        return _with_lines(desk, self._name, [*lines, f"do {self._part}"])


class Keep(Change):
    """Let the store keep a rule, unless it does."""

    def __init__(self, rule):
        Change.__init__(self, f"Keep {rule}")
        self._index = rule

    def __call__(self, desk):
        if not is_index(self._index, len(desk.rules.listed)):
            raise NoRule(self._index)
        if self._index in desk.store:
            return desk.varied()
        return desk.varied(store=[*desk.store, self._index])


def applied(desk, changes):
    """Return the desk that the changes make, one after another."""
    made = desk
    for change in changes:
        made = change(made)
    return made


def mends(desk, *pool):
    """Return a list of all least mends of the desk with these changes."""
    return mends_of(desk, pool)


def mends_of(desk, pool):
    """Return a list of all least mends of the desk with a list of changes."""
    if len(pool) > _MOST:
        raise TooMany("changes")
    applied(desk, pool)
    keeping = []
    for chosen in _sets_of(len(pool)):
        made = _made_by(desk, [pool[at] for at in chosen])
        if made is not None and is_kept(made):
            keeping.append(chosen)
    return _least_of(keeping)


def enough(desk):
    """Return a list of all least sets of rules that are enough for the store."""
    sets = _sets_of(len(desk.rules.listed))
    return _least_of([chosen for chosen in sets if is_kept(desk.varied(store=chosen))])


def refusals(desk):
    """Return a list of (door, line, rule): where the store can refuse before an event breaks a rule."""
    unkept = survey_of(desk).crowd.unkept
    found = []
    for plan in desk:
        for line in range(len(plan)):
            for rule in range(len(desk.rules.listed)):
                if (plan.name, line, rule) in unkept:
                    found.append((plan.name, line, rule))
    return found


def _with_lines(desk, name, lines):
    """Return a new desk in which the door has these lines."""
    doors = []
    for door in desk:
        doors.append(Door.of(name, lines) if door.name == name else door)
    return desk.varied(doors=doors)


def _last_do(lines):
    """Return the index of the last line `do`; every door has one."""
    return [at for at, line in enumerate(lines) if line.startswith("do ")][-1]


def _made_by(desk, changes):
    """Return the desk that the changes make; None if one of them raises an error."""
    try:
        return applied(desk, changes)
    except (BadDoor, Unfit, BadDesk, NoDoor, NoRule):
        return None


def _sets_of(many):
    """Return all tuples of indexes below so many, ascending."""
    sets = [()]
    for at in reversed(range(many)):
        # Those that begin with this index stand ahead of those that begin with a greater one.
        sets = [(), *[(at, *rest) for rest in sets], *sets[1:]]
    return sets


def _least_of(sets):
    """Return the sets of which no other one is a part."""
    return [one for one in sets if not any([other != one and _is_part(other, one) for other in sets])]


def _is_part(some, others):
    return all([at in others for at in some])
