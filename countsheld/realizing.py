"""Making events of a book out of what is known of standings alone."""

from countsheld.books import Book
from countsheld.engine import Scene, do_part
from countsheld.errors import Refused
from countsheld.sights import others_behind, sight_of
from countsheld.turns import ends_of, has_to_wait, turns_of


class Stage:
    """A book at a desk, and the events that have happened in it."""

    def __init__(self, desk):
        self.used_desk = desk
        self.book = Book(desk)
        self.events = []

    def let_found(self, begin):
        """Add an owner with the rows of the begin; return its number."""
        self.events.append(("owner", begin))
        return self.book.add_owner(begin)

    def let_come(self, owner, kind):
        """Let a row of a loose kind come; return its number."""
        self.events.append(("come", owner, kind))
        return self.book.come(owner, kind)

    def let_leave(self, owner, row):
        """Let a row of a loose kind leave."""
        self.events.append(("leave", owner, row))
        self.book.leave(owner, row)

    def let_begin(self, door, owner, row, other, picks):
        """Let a call begin, which may be refused."""
        self.events.append(("call", door, owner, row, other, picks))
        try:
            self.book.begin(door, owner, row=row, other=other, picks=picks)
        except Refused:
            pass

    def let_go_on(self, call, other, picks):
        """Let a call go on, which may be refused."""
        self.events.append(("go", call.number, other, picks))
        try:
            call.go_on(other=other, picks=picks)
        except Refused:
            pass


class Event:
    """A turn at a home, what is behind it, and the index of the touched owner's group whose row is taken."""

    def __init__(self, move, draft, taken):
        self.move = move
        self.draft = draft
        self.taken = taken


class Cast:
    """An owner of a stage's book, its standing, and the rows of the groups of that; None for no owner."""

    def __init__(self, stage, owner, standing):
        self.owner = owner
        self.standing = standing
        self.rows = [] if owner is None else _rows_of_groups(stage.book, owner, standing)


def event_to(desk, role, home, touched, standing):
    """Return an event of the casts home and touched behind which the one with this role has the standing.

    If the standing is within the rules, the other owner is so behind the event, or exists no longer.
    """
    mine = 1 if role == "other" else 0
    for move in turns_of(desk, home.standing, False):
        if move.step.touches == (touched.owner is not None):
            for event, ends in _events_of(desk, move, touched.standing):
                if ends[mine] == standing and (_is_within(desk, ends[1 - mine]) or not _is_within(desk, standing)):
                    return event
    return None


def realize(stage, event, home, touched):
    """Let the event happen in the stage's book; home and touched are casts."""
    call = _call_going_on(stage.book, event.move, home)
    named = _row_to_name(stage, event.move, home) if call is None else call.row
    if event.draft.lacking is not None:
        _clear(stage, event.draft.lacking, home.owner, touched.owner, named)
    picks = () if event.draft.is_refused else _picks_of(stage, event, home, touched, named)
    if call is None:
        stage.let_begin(event.move.plan.name, home.owner, named, touched.owner, picks)
    else:
        stage.let_go_on(call, touched.owner, picks)


def _is_within(desk, standing):
    return standing is None or desk.rules.includes(standing[0])


def _events_of(desk, move, touched):
    """Return pairs: an event of this turn, and the standings of the home and the touched owner behind it."""
    if touched is None:
        return [(Event(move, draft, None), (behind, None)) for draft, behind in ends_of(desk, move, None)]
    sight = sight_of(desk, move.plan, touched)
    found = []
    if not has_to_wait(move, sight):
        for draft, behind in ends_of(desk, move, sight):
            for one, taken in others_behind(desk.rules, touched, draft.effect):
                found.append((Event(move, draft, taken), (behind, one)))
    return found


def _rows_of_groups(book, owner, standing):
    """Return the row of each group of the owner's standing; None where no row is named, or it is gone."""
    calls_by_row = {}
    for number in book.under_way(owner):
        call = book.call(number)
        if call.row in book[owner]:
            calls_by_row.setdefault(call.row, []).append((call.door, call.next_line))
    rows = []
    for label, calls in standing[1]:
        fitting = [
            row for row, named in calls_by_row.items()
            if row not in rows and book[owner][row] == label and _are_same(named, calls)
        ]
        rows.append(fitting[0] if fitting else None)
    return rows


def _are_same(some, others):
    """Tell whether both lists have the same calls, equal ones as often."""
    return len(some) == len(others) and all([some.count(call) == others.count(call) for call in others])


def _call_going_on(book, move, home):
    """Return the call whose turn it is; None if it begins."""
    if move.is_new:
        return None
    label = move.place.labels[move.own]
    for number in book.under_way(home.owner):
        call = book.call(number)
        is_there = call.row in book[home.owner]
        is_same = not is_there if label in ("", "gone") else call.row == home.rows[move.own]
        if is_same and call.door == move.plan.name and call.next_line == move.at:
            return call
    return None


def _row_to_name(stage, move, home):
    """Return the row that a call which begins names; a row of a loose kind comes if need be."""
    if not move.plan.names_row:
        return None
    if move.own < len(home.rows):
        return home.rows[move.own]
    return _free_row(stage, home, move.place.labels[move.own], None)


def _free_row(stage, cast, kind, passed):
    """Return the lowest row of the kind that no call names, other than the passed one, or else a new one."""
    for row in stage.book[cast.owner].numbers_of(kind):
        if row not in cast.rows and row != passed:
            return row
    return stage.let_come(cast.owner, kind)


def _clear(stage, lacking, home, touched, named):
    """Let all rows of a loose kind leave an owner, but for the row that its call names."""
    whose, kind = lacking
    owner = home if whose == "home" else touched
    for row in stage.book[owner].numbers_of(kind):
        if whose != "home" or row != named:
            stage.let_leave(owner, row)


def _picks_of(stage, event, home, touched, named):
    """Return the rows that the parts `one` and `take` choose; rows of loose kinds come for them."""
    parts = event.move.step.parts
    choosing = [part for part in parts if part.word in ("one", "take")]
    for part, choice in zip(choosing, event.draft.choices):
        if choice is None and part.kinds[0] in stage.used_desk.rules.loose:
            if part.word == "one":
                _free_row(stage, home, part.kinds[0], named)
            else:
                _free_row(stage, touched, part.kinds[0], None)
    there = None if touched.owner is None else stage.book[touched.owner].rows_now()
    scene = Scene(stage.book[home.owner].rows_now(), there, named, [])
    choices = list(event.draft.choices)
    for part in parts:
        if part.word in ("one", "take"):
            scene.picks.append(_pick_of(scene, part, choices.pop(0), event, home, touched))
        do_part(part, scene)
    return tuple(scene.picks)


def _pick_of(scene, part, choice, event, home, touched):
    """Return the row that the part chooses among the rows as they are ahead of it."""
    kind = part.kinds[0]
    if part.word == "one":
        if choice is not None:
            return home.rows[choice]
        return [row for row in scene.home.rows_of(kind) if row not in home.rows and row != scene.row][0]
    if choice is not None:
        return touched.rows[event.taken]
    return [row for row in scene.touched.rows_of(kind) if row not in touched.rows][0]
