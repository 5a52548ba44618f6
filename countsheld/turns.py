"""What calls can do at an owner of which its standing is known alone."""

from countsheld.drafts import drafts_of
from countsheld.order import ascending
from countsheld.places import Place, has_held, is_held, place_of, standing_at
from countsheld.sights import may_be_free


class Turn:
    """A call that can execute a line: its door, the index of the line, and the owner without this call.

    own: the index of the group of the call. It is the index of a group of the standing, or that of
    one more, for a row that no call has named and for the first call that names none.
    """

    def __init__(self, plan, at, place, own, is_new):
        self.plan = plan
        self.at = at
        self.place = place
        self.own = own
        self.is_new = is_new
        self.step = plan.steps[at]
        self.is_holding = has_held(plan, at)


def turns_of(desk, standing, only_going):
    """Return all turns at an owner with this standing; a line `hold` that has to wait is none."""
    place = place_of(desk.rules, standing)
    turns = _going(desk, place)
    if not only_going and sum([len(calls) for calls in place.groups]) < desk.limit:
        for plan in desk:
            turns.extend(_beginning(desk, plan, place))
    if is_held(desk, standing):
        return [turn for turn in turns if turn.step.word != "hold"]
    return turns


def has_to_wait(turn, sight):
    """Tell whether the line, which touches an owner that is seen so, has to wait."""
    return turn.is_holding and sight.held


def ends_of(desk, turn, sight):
    """Return pairs: a draft of what may be behind the line, and the standing of the home then."""
    found = drafts_of(desk, turn.step, turn.place, turn.own, sight)
    return [(draft, _home_behind(desk.rules, turn, draft)) for draft in found]


def _home_behind(rules, turn, draft):
    if draft.is_refused:
        return standing_at(rules, turn.place)
    groups = list(turn.place.groups)
    if turn.at + 1 < len(turn.plan.steps):
        groups[turn.own] = tuple(ascending([*groups[turn.own], (turn.plan.name, turn.at + 1)]))
    return standing_at(rules, Place(draft.many, draft.labels, groups))


def _going(desk, place):
    """Return the turns of the calls that go on; of equal ones one is enough."""
    turns = []
    for own, calls in enumerate(place.groups):
        for which, call in enumerate(calls):
            if call not in calls[:which]:
                groups = list(place.groups)
                groups[own] = (*calls[:which], *calls[which + 1:])
                name, at = call
                turns.append(Turn(desk[name], at, Place(place.many, place.labels, groups), own, False))
    return turns


def _beginning(desk, plan, place):
    """Return the turns of calls of the door that begin, for each row that one may name."""
    many_groups = len(place.labels)
    if not plan.names_row:
        unnamed = [at for at, label in enumerate(place.labels) if label == ""]
        if unnamed:
            return [Turn(plan, 0, place, unnamed[0], True)]
        return [Turn(plan, 0, _with_group(place, ""), many_groups, True)]
    turns = []
    for own, label in enumerate(place.labels):
        if label not in ("", "gone"):
            turns.append(Turn(plan, 0, place, own, True))
    for kind in (*desk.rules.kinds, *desk.rules.loose):
        if may_be_free(place.many, place.labels, kind):
            turns.append(Turn(plan, 0, _with_group(place, kind), many_groups, True))
    return turns


def _with_group(place, label):
    """Return the owner with one group more, which has no calls yet."""
    return Place(place.many, [*place.labels, label], [*place.groups, ()])
