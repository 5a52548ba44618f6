"""Books: owners with their rows, and calls of doors at them."""

from countsheld.engine import Scene, execute
from countsheld.errors import (
    BadDesk, BadHistory, BadWord, Broken, Busy, Full, Named, NoBegin, NoOwner, NoRow, NotLoose, Over,
    Refused, Waits,
)
from countsheld.rows import Rows
from countsheld.words import is_index, is_number


class Owner:
    """An owner of a book, as it is now; made by books alone."""

    def __init__(self, book, number, rows):
        self.number = number
        self._of_book = book
        # A line that goes through puts other rows in this place; one that does not, changes nothing.
        self._rows = rows
        self._calls = []

    def drop(self, row):
        """Remove a row by hand."""
        draft = _draft_of(self, row)
        draft.strike(row)
        _put_by_hand(self, draft)

    def numbers_of(self, kind):
        """Return a list of the rows of this kind, ascending."""
        return self._rows.rows_of(kind)

    def rows_now(self):
        """Return a copy of the rows."""
        return self._rows.copied()

    def counts(self):
        """Return the counts of the ruled rows."""
        return self._rows.counts_of(self._of_book.desk.rules.kinds)

    def __getitem__(self, at):
        if not self._rows.has_row(at):
            raise NoRow(at)
        return self._rows.kind_of(at)

    def __setitem__(self, at, worth):
        draft = _draft_of(self, at)
        if not _is_known(self._of_book.desk.rules, worth):
            raise BadWord(worth)
        draft.turn(at, worth)
        _put_by_hand(self, draft)

    def __contains__(self, x):
        return self._rows.has_row(x)

    def __len__(self):
        return len(self._rows)

    # Python would otherwise iterate by calling __getitem__ with 0, 1, 2 ..
    def __iter__(self):
        raise TypeError("an owner cannot be iterated over")


class Call:
    """A call of a door at its home, under way or over; made by books alone."""

    def __init__(self, book, number, plan, home, row):
        self.number = number
        self.door = plan.name
        self.owner = home.number
        self.row = row
        self._of_book = book
        self._plan = plan
        self._home = home
        self._done = 0
        self._is_going = True

    @property
    def is_open(self):
        """Whether it is under way."""
        return self._is_going

    @property
    def next_line(self):
        """How many of its lines have been executed."""
        return self._done

    def go_on(self, *, other=None, picks=()):
        """Execute the next line."""
        if not self._is_going:
            raise Over(self.number)
        touched = _told_owner(self, other)
        _check_waits(self, touched)
        scene = _scene_of(self, touched, picks)
        why = execute(_next_step(self), scene, self._of_book.desk)
        _settle(self, touched, scene, why)


class Book:
    """Owners and calls at a desk."""

    def __init__(self, desk):
        self._desk = desk
        self._living = {}
        self._many_owners = 0
        self._begun = []

    @property
    def desk(self):
        """The desk of calls that begin and of new owners."""
        return self._desk

    @desk.setter
    def desk(self, value):
        if value.rules != self._desk.rules:
            raise BadDesk("rules")
        for number, owner in self._living.items():
            if owner._calls:
                raise Busy(number)
        self._desk = value

    def deploy(self, desk):
        """Assign the desk."""
        self.desk = desk

    def add_owner(self, begin=0):
        """Add an owner with the rows of the begin with this index; return its number."""
        begins = self._desk.begins()
        if not is_index(begin, len(begins)):
            raise NoBegin(begin)
        rows = Rows()
        for kind, many in begins[begin].pairs():
            for _ in range(many):
                rows.enter(kind)
        number = self._many_owners
        self._many_owners = number + 1
        self._living[number] = Owner(self, number, rows)
        return number

    def owners(self):
        """Return a list of the numbers of the living owners, ascending."""
        # Numbers only ascend, so the dict has the owners in their order.
        return list(self._living)

    def come(self, owner, kind):
        """Let a row of a loose kind come; return its number."""
        home = self[owner]
        if kind not in self._desk.rules.loose:
            raise NotLoose(kind)
        return home._rows.enter(kind)

    def leave(self, owner, row):
        """Let a row of a loose kind that no call names leave."""
        home = self[owner]
        kind = home[row]
        if kind not in self._desk.rules.loose:
            raise NotLoose(kind)
        if any([call.row == row for call in home._calls]):
            raise Named(row)
        home._rows.strike(row)

    def begin(self, door, owner, *, row=None, other=None, picks=()):
        """Begin a call and execute its first line; return the call."""
        plan = self._desk[door]
        home = self[owner]
        if len(home._calls) >= self._desk.limit:
            raise Full(owner)
        _check_named(plan, home, row)
        call = Call(self, len(self._begun), plan, home, row)
        touched = _told_owner(call, other)
        _check_waits(call, touched)
        scene = _scene_of(call, touched, picks)
        why = execute(_next_step(call), scene, self._desk)
        # From here on the call has begun, even if this line is refused.
        self._begun.append(call)
        home._calls.append(call)
        _settle(call, touched, scene, why)
        return call

    def under_way(self, owner):
        """Return a list of the numbers of the calls under way at the owner, ascending."""
        return [call.number for call in self[owner]._calls]

    def call(self, number):
        """Return the call with this number, under way or over."""
        if not is_index(number, len(self._begun)):
            raise Over(number)
        return self._begun[number]

    def broken(self):
        """Return a list of (owner, index of a rule) of the rules that do not hold now, ascending."""
        found = []
        for number, owner in self._living.items():
            found.extend([(number, at) for at in self._desk.rules.broken(owner.counts())])
        return found

    def shown(self):
        """Return a list of lines: how many rows of each ruled kind each living owner has."""
        lines = []
        for number, owner in self._living.items():
            for kind in self._desk.rules.kinds:
                many = owner._rows.how_many([kind])
                lines.append(f"{number:>4} {kind:<8}{many:>4}")
        return lines

    def __getitem__(self, at):
        if at not in self:
            raise NoOwner(at)
        return self._living[at]

    def __contains__(self, x):
        return is_number(x) and x in self._living

    def __len__(self):
        return len(self._living)

    # Python would otherwise iterate by calling __getitem__ with 0, 1, 2 ..
    def __iter__(self):
        raise TypeError("a book cannot be iterated over")


def by_hand(book, owner, edits):
    """Do the edits in order and look at the rules behind the last one; return the rows that were added."""
    home = book[owner]
    rules = book.desk.rules
    draft = home._rows.copied()
    added = []
    for at, edit in enumerate(edits):
        if not _is_possible(edit, draft, rules):
            raise BadHistory(at)
        if edit[0] == "set":
            draft.turn(edit[1], edit[2])
        elif edit[0] == "drop":
            draft.strike(edit[1])
        else:
            added.append(draft.enter(edit[1]))
    _put_by_hand(home, draft)
    return added


def _is_possible(edit, draft, rules):
    """Tell whether any value is an edit of rows that are there, to kinds that there may be."""
    if not isinstance(edit, tuple):
        return False
    if len(edit) == 3 and edit[0] == "set":
        return draft.has_row(edit[1]) and _is_known(rules, edit[2])
    if len(edit) != 2:
        return False
    if edit[0] == "drop":
        return draft.has_row(edit[1])
    return edit[0] == "add" and _is_known(rules, edit[1])


def _draft_of(owner, row):
    """Return a copy of the owner's rows; raise NoRow if any value is not the number of one."""
    if row not in owner:
        raise NoRow(row)
    return owner._rows.copied()


def _put_by_hand(owner, draft):
    rules = owner._of_book.desk.rules
    broken = rules.broken(draft.counts_of(rules.kinds))
    if broken:
        raise Broken(broken)
    owner._rows = draft


def _is_known(rules, kind):
    return kind in rules.kinds or kind in rules.loose


def _check_named(plan, home, row):
    if plan.names_row and row not in home:
        raise NoRow(row)
    if not plan.names_row and row is not None:
        raise NoRow(row)


def _next_step(call):
    return call._plan.steps[call._done]


def _told_owner(call, other):
    """Return the owner that the next line touches, or None; any other value is NoOwner."""
    if not _next_step(call).touches:
        if other is not None:
            raise NoOwner(other)
        return None
    if other == call.owner:
        raise NoOwner(other)
    return call._of_book[other]


def _holds_home(call):
    """Tell whether the call has executed a line `hold`, and so holds its home until it ends."""
    return any([step.word == "hold" for step in call._plan.steps[:call._done]])


def _is_held(owner):
    return any([_holds_home(call) for call in owner._calls])


def _check_waits(call, touched):
    if _next_step(call).word == "hold" and _is_held(call._home):
        raise Waits(call.owner)
    if touched is not None and _holds_home(call) and _is_held(touched):
        raise Waits(touched.number)


def _scene_of(call, touched, picks):
    rows = None if touched is None else touched._rows
    return Scene(call._home._rows, rows, call.row, picks)


def _settle(call, touched, scene, why):
    """Keep what the next line has done, and end the call if need be; raise Refused if the line is refused."""
    home = call._home
    at = call._done
    if why is not None:
        _end_call(call)
        if why[0] == "rule":
            raise Refused(call.door, at, why) from Broken((why[1],))
        raise Refused(call.door, at, why)
    home._rows = scene.home
    if scene.touched is not None:
        touched._rows = scene.touched
    elif touched is not None:
        _end_owner(touched)
    call._done = at + 1
    if call._done == len(call._plan.steps):
        _end_call(call)


def _end_call(call):
    home = call._home
    call._is_going = False
    home._calls = [one for one in home._calls if one.number != call.number]


def _end_owner(owner):
    book = owner._of_book
    for call in owner._calls:
        call._is_going = False
    owner._calls = []
    owner._rows = Rows()
    del book._living[owner.number]
