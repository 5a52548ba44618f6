"""Outcomes of whole calls, and desks at which these are the same."""

from countsheld.errors import BadDesk, BadWord, NoOwner, TooMany
from countsheld.pairings import Pairing, whole_call
from countsheld.standings import are_numbers
from countsheld.webs import assembled, chain_behind, grown, routes_in
from countsheld.words import is_index

_MOST = 40


class Comparison:
    """Whether two desks are alike, and what shows it."""

    def __init__(self, certificate, chain):
        self.certificate = certificate
        self._is_alike = certificate[0] == "alike"
        self._chain = chain

    def __bool__(self):
        return bool(self._is_alike)

    def __len__(self):
        return len(self._chain)


def outcomes(desk, door, kind, home, other=None):
    """Return a list of the outcomes of a whole call of the door; home and other are counts."""
    plan = desk[door]
    known = [*desk.rules.kinds, *desk.rules.loose]
    if plan.names_row and kind not in known:
        raise BadWord(kind)
    if not plan.names_row and kind is not None:
        raise BadWord(kind)
    if plan.touches and other is None:
        raise NoOwner(None)
    if kind in desk.rules.kinds and home[kind] == 0:
        return []
    numbers = None if other is None else desk.rules.numbers(other)
    return whole_call(desk, plan, kind, desk.rules.numbers(home), numbers)


def compare(one, other):
    """Return the comparison of two desks with equal rules and begins."""
    pairing = _checked_pairing(one, other)
    web = grown(pairing, _first_numbers(one), _MOST)
    if not pairing.parting:
        return Comparison(("alike", tuple(pairing.numbers_in)), [])
    routes = routes_in(web)
    best = pairing.parting[0]
    for call in pairing.parting:
        if _reach(routes, call) < _reach(routes, best):
            best = call
    name, kind, home, beside = best
    chain = chain_behind(routes, routes[home])
    lines, placed = assembled(web, chain, [] if beside is None else [beside])
    call = (name, kind, len(lines) - 1, placed.get(beside))
    return Comparison(("parted", tuple(lines), call), chain)


def is_comparison(one, other, thing):
    """Tell whether any value is a comparison of the desks, of any number of lines."""
    pairing = _checked_pairing(one, other)
    first = _first_numbers(one)
    if not isinstance(thing, tuple):
        return False
    if len(thing) == 2 and thing[0] == "alike":
        return _is_table(pairing, first, thing[1])
    if len(thing) != 3 or thing[0] != "parted":
        return False
    _, lines, call = thing
    if not isinstance(lines, tuple) or not _are_lines(pairing, first, lines):
        return False
    return _is_parting(pairing, lines, call)


def _checked_pairing(one, other):
    if one.rules != other.rules:
        raise BadDesk("rules")
    if one.begins() != other.begins():
        raise BadDesk("begins")
    if len(one.rules) > _MOST:
        raise TooMany("counts")
    return Pairing(one, other)


def _first_numbers(desk):
    return [desk.rules.numbers(begin) for begin in desk.begins()]


def _reach(routes, call):
    """Return the length of the shortest chain to the home of the call, and its size."""
    route = routes[call[2]]
    return route.length, route.size


def _is_table(pairing, first, thing):
    if not isinstance(thing, tuple) or not all([_are_within(pairing, numbers) for numbers in thing]):
        return False
    known = {numbers: True for numbers in thing}
    if not all([numbers in known for numbers in first]):
        return False
    for numbers in known:
        if not all([step[0] in known for _, step in pairing.admit(numbers)]):
            return False
    return len(pairing.parting) == 0


def _are_within(pairing, thing):
    return are_numbers(pairing.rules, thing) and pairing.rules.includes(thing)


def _are_lines(pairing, first, lines):
    parts_by_two = {}
    for at in range(len(lines)):
        # A line rests on those ahead of it, so the first wrong one is the last that is looked at.
        if not _is_line(pairing, first, lines, at, parts_by_two):
            return False
    return True


def _is_line(pairing, first, lines, at, parts_by_two):
    """Tell whether any value at this index is a line; parts_by_two keeps what was worked out."""
    line = lines[at]
    if not isinstance(line, tuple) or len(line) != 4 or not _are_within(pairing, line[0]):
        return False
    numbers, role, source, partner = line
    if role == "begin":
        return partner is None and is_index(source, len(first)) and numbers == first[source]
    if role not in ("home", "other") or not is_index(source, at):
        return False
    if partner is not None and not is_index(partner, at):
        return False
    beside = None if partner is None else lines[partner][0]
    if role == "other" and beside is None:
        return False
    two = (lines[source][0], beside) if role == "home" else (beside, lines[source][0])
    if two not in parts_by_two:
        parts_by_two[two] = _parts_of(pairing, two[0], two[1])
    return numbers in parts_by_two[two][0 if role == "home" else 1]


def _parts_of(pairing, home, other):
    """Return the numbers that the two owners can have behind a call, as the keys of two dicts.

    Without another owner these are calls of the doors that touch none, otherwise of those that do.
    """
    parts = ({}, {})
    for name in pairing.names:
        if pairing.touches_in_one(name) == (other is not None):
            for kind in pairing.kinds_for(name):
                for _, mine, theirs, _ in pairing.common_outcomes(name, kind, home, other)[0]:
                    parts[0][mine] = True
                    parts[1][theirs] = True
    return parts


def _is_parting(pairing, lines, thing):
    """Tell whether any value is a call whose outcomes at the two desks differ."""
    if not isinstance(thing, tuple) or len(thing) != 4:
        return False
    name, kind, home, other = thing
    if name not in pairing.names or kind not in pairing.kinds_for(name) or not is_index(home, len(lines)):
        return False
    told = None
    if pairing.touches_in_one(name):
        if not is_index(other, len(lines)):
            return False
        told = lines[other][0]
    elif other is not None:
        return False
    return not pairing.common_outcomes(name, kind, lines[home][0], told)[1]
