"""How a line of a door is executed."""

from countsheld.errors import NoPick
from countsheld.signs import passes


class Scene:
    """What a line is executed on: the rows of both owners, the named row and the picks.

    touched is None if the line touches no owner, and behind `join`.
    """

    def __init__(self, home, touched, row, picks):
        self.home = home
        self.touched = touched
        self.row = row
        self.picks = list(picks)
        self.picked = 0


def execute(line, scene, desk):
    """Execute the line; return why it is refused, or None. Raise NoPick at a wrong pick.

    The scene then has the rows behind the line. The rows that it was made with do not change.
    """
    failing = _failing_test(line, scene)
    if failing is not None:
        return ("test", failing)
    if line.word != "do":
        return None
    scene.home = scene.home.copied()
    scene.touched = scene.touched.copied() if line.touches else None
    refused = _refused_part(line, scene)
    if refused is not None:
        return ("part", refused)
    unkept = _unkept_rule(desk, scene)
    return None if unkept is None else ("rule", unkept)


def _failing_test(line, scene):
    """Return the index of the first test that does not hold, or None."""
    for at, test in enumerate(line.tests):
        if not _test_holds(test, scene):
            return at
    return None


def _test_holds(test, scene):
    if test.whose == "row":
        return scene.home.is_of(scene.row, test.kinds)
    rows = scene.touched if test.whose == "other" else scene.home
    return passes(test, rows.how_many(test.kinds))


def _unkept_rule(desk, scene):
    """Return the first rule of the store that does not hold, for the home or else the touched owner."""
    at = _unkept_by(desk, scene.home)
    if at is None and scene.touched is not None:
        return _unkept_by(desk, scene.touched)
    return at


def _unkept_by(desk, rows):
    for at in desk.store:
        rule = desk.rules.listed[at]
        if not rule.holds(rows.counts_of(rule.kinds)):
            return at
    return None


def _change_named(scene, part):
    if not scene.home.is_of(scene.row, part.kinds):
        return False
    _become(scene.home, scene.row, part.after)
    return True


def _change_one(scene, part):
    row = _chosen(scene, scene.home, part.kinds[0], scene.row)
    if row is None:
        return False
    _become(scene.home, row, part.after)
    return True


def _change_all(scene, part):
    found = scene.home.rows_of(part.kinds[0])
    for row in found:
        if row != scene.row:
            _become(scene.home, row, part.after)
    return True


def _enter_new(scene, part):
    scene.home.enter(part.after)
    return True


def _give_named(scene, part):
    if not scene.home.is_of(scene.row, part.kinds):
        return False
    scene.home.strike(scene.row)
    scene.touched.enter(part.after)
    return True


def _take_one(scene, part):
    row = _chosen(scene, scene.touched, part.kinds[0], None)
    if row is None:
        return False
    scene.touched.strike(row)
    scene.home.enter(part.after)
    return True


def _join_all(scene, part):
    arriving = scene.touched.kinds_in_order()
    for kind in arriving:
        scene.home.enter(kind)
    scene.touched = None
    return True


_ACTIONS = {
    "row": _change_named,
    "one": _change_one,
    "all": _change_all,
    "new": _enter_new,
    "give": _give_named,
    "take": _take_one,
    "join": _join_all,
}


def do_part(part, scene):
    """Do the part on the rows of the scene; return whether it is done, or refused."""
    action = _ACTIONS[part.word]
    return action(scene, part)


def _refused_part(line, scene):
    """Do the parts until one is refused; return its index, or None."""
    for at, part in enumerate(line.parts):
        if not do_part(part, scene):
            return at
    return None


def _become(rows, row, after):
    if after == "gone":
        rows.strike(row)
    else:
        rows.turn(row, after)


def _chosen(scene, rows, kind, passed):
    """Return the row of the kind that is picked, else the lowest; None if there is none to choose from."""
    lowest = rows.first_of(kind, passed)
    if lowest is None or scene.picked == len(scene.picks):
        return lowest
    pick = scene.picks[scene.picked]
    scene.picked = scene.picked + 1
    if pick == passed or not rows.is_of(pick, [kind]):
        raise NoPick(pick)
    return pick
