"""Standings: all that matters of an owner and of the calls under way at it."""

from countsheld.errors import BadStanding
from countsheld.order import ascending, is_ascending
from countsheld.places import Place, has_held, standing_at
from countsheld.sights import others_behind, sight_of
from countsheld.turns import ends_of, has_to_wait, turns_of
from countsheld.words import is_index


def standing_of(book, owner):
    """Return the standing of a living owner of the book."""
    home = book[owner]
    rules = book.desk.rules
    calls = [book.call(number) for number in book.under_way(owner)]
    by_row = {}
    for call in calls:
        by_row.setdefault(call.row, []).append((call.door, call.next_line))
    many = dict(zip(rules.kinds, rules.numbers(home.counts())))
    labels = [_label_of(home, row) for row in by_row]
    groups = [tuple(ascending(named)) for named in by_row.values()]
    return standing_at(rules, Place(many, labels, groups))


def at_rest(desk, counts):
    """Return the standing of an owner with these counts and without calls under way."""
    return desk.rules.numbers(counts), ()


def is_standing(desk, thing):
    """Tell whether any value is a standing of the desk."""
    if not isinstance(thing, tuple) or len(thing) != 2:
        return False
    numbers, groups = thing
    if not are_numbers(desk.rules, numbers) or not isinstance(groups, tuple):
        return False
    if not all([_is_group(desk, group) for group in groups]) or not is_ascending(groups):
        return False
    labels = [label for label, _ in groups]
    calls = [call for _, listed in groups for call in listed]
    if labels.count("") > 1 or labels.count("gone") > 1 or len(calls) > desk.limit:
        return False
    if len([at for name, at in calls if has_held(desk[name], at)]) > 1:
        return False
    return all([labels.count(kind) <= number for kind, number in zip(desk.rules.kinds, numbers)])


def are_numbers(rules, thing):
    """Tell whether any value is a tuple of an integer from 0 to 99 for each ruled kind."""
    if not isinstance(thing, tuple) or len(thing) != len(rules.kinds):
        return False
    return all([is_index(number, 100) for number in thing])


def alone(desk, standing, *, only_going=False):
    """Return the standings that the owner can have after one event that touches no other owner."""
    _check_standing(desk, standing)
    found = {}
    for turn in turns_of(desk, standing, only_going):
        if not turn.step.touches:
            for _, behind in ends_of(desk, turn, None):
                found[behind] = True
    return list(found)


def meeting(desk, home, other, *, only_going=False):
    """Return the pairs of standings of two owners after a line of a call of the first touches the second."""
    _check_standing(desk, home)
    _check_standing(desk, other)
    found = {}
    for turn in turns_of(desk, home, only_going):
        if turn.step.touches:
            for pair in _pairs_behind(desk, turn, other):
                found[pair] = True
    return list(found)


def _pairs_behind(desk, turn, other):
    sight = sight_of(desk, turn.plan, other)
    if has_to_wait(turn, sight):
        return []
    found = []
    for draft, behind in ends_of(desk, turn, sight):
        found.extend([(behind, one) for one, _ in others_behind(desk.rules, other, draft.effect)])
    return found


def _check_standing(desk, thing):
    if not is_standing(desk, thing):
        raise BadStanding(thing)


def _label_of(home, row):
    if row is None:
        return ""
    return home[row] if row in home else "gone"


def _is_group(desk, thing):
    """Tell whether any value is a group: a label and calls of doors that fit it, ascending."""
    if not isinstance(thing, tuple) or len(thing) != 2:
        return False
    label, calls = thing
    if not isinstance(label, str) or label not in ("", "gone", *desk.rules.kinds, *desk.rules.loose):
        return False
    if not isinstance(calls, tuple) or len(calls) == 0 or not all([_is_call(desk, call) for call in calls]):
        return False
    if any([desk[name].names_row == (label == "") for name, _ in calls]):
        return False
    return is_ascending(calls)


def _is_call(desk, thing):
    """Tell whether any value is the name of a door and the index of a line behind its first one."""
    if not isinstance(thing, tuple) or len(thing) != 2 or thing[0] not in desk:
        return False
    name, at = thing
    return is_index(at, len(desk[name])) and at > 0
