"""Verdicts: whether the rules of a desk can be broken, by any owners and any calls at once."""

from countsheld.crowds import Crowd
from countsheld.errors import NoWay, TooMany
from countsheld.places import total_in
from countsheld.standings import at_rest, is_standing
from countsheld.turns import ends_of, has_to_wait, turns_of
from countsheld.webs import assembled, chain_behind, grown, route_behind, routes_in

_MOST = 120
_MOST_WITH_LATE = 150


class Verdict:
    """Whether a desk is kept, and what shows it."""

    def __init__(self, desk, table, trace):
        self.certificate = ("kept", tuple(table)) if trace is None else ("broken", tuple(trace[0]))
        self._is_kept = trace is None
        # The lines of the chain behind its first one: the events at the owner.
        self._events = [] if trace is None else trace[1]
        self._for_desk = desk
        self._known = {standing: True for standing in table}

    def has(self, standing):
        """Tell whether any value is a possible standing of the desk."""
        return is_standing(self._for_desk, standing) and standing in self._known

    def __bool__(self):
        return bool(self._is_kept)

    def __len__(self):
        return len(self._events)


class Survey:
    """The possible standings of a desk, with the crowd that they are and their web."""

    def __init__(self, desk, crowd, web):
        self.used_desk = desk
        self.crowd = crowd
        self.web = web

    def place_in_web(self, thing):
        """Return the index of the standing that any value is; None if it is not possible."""
        if not is_standing(self.used_desk, thing):
            return None
        return self.web.place_by_thing.get(thing)

    def breaking_steps(self):
        """Return a list of pairs (index of the standing before, step) of all steps that break a rule."""
        found = []
        for at, steps in enumerate(self.web.steps_from):
            found.extend([(at, step) for step in steps if not self.crowd.lets_in(step[0])])
        return found


def survey_of(desk):
    """Return the survey of the desk; raise TooMany if it has too many possible standings."""
    crowd = Crowd(desk)
    first = [at_rest(desk, begin) for begin in desk.begins()]
    return Survey(desk, crowd, grown(crowd, first, _MOST))


def is_kept(desk):
    """Tell whether the desk is kept; raise TooMany if it has too many possible standings."""
    return not survey_of(desk).breaking_steps()


def judge(desk):
    """Return the verdict on the desk."""
    survey = survey_of(desk)
    breaking = survey.breaking_steps()
    if not breaking:
        return Verdict(desk, survey.crowd.standings, None)
    routes = routes_in(survey.web)
    best = None
    for at, step in breaking:
        route = route_behind(survey.web, routes[at], at, step)
        if best is None or (route.length, route.size) < (best.length, best.size):
            best = route
    chain = chain_behind(routes, best)
    lines, _ = assembled(survey.web, chain, [])
    return Verdict(desk, survey.crowd.standings, (lines, chain[1:]))


def possible(desk):
    """Yield the possible standings of the desk, each once."""
    for standing in survey_of(desk).crowd.standings:
        yield standing


def way_to(desk, standing):
    """Return a way of the least length whose last standing this is."""
    survey = survey_of(desk)
    at = survey.place_in_web(standing)
    if at is None:
        raise NoWay(standing)
    routes = routes_in(survey.web)
    lines, _ = assembled(survey.web, chain_behind(routes, routes[at]), [])
    return tuple(lines)


def farthest(desk):
    """Return a pair (smallest, greatest) of the farthest totals of each rule."""
    survey = survey_of(desk)
    reached = [*survey.crowd.standings, *_late_standings(survey)]
    places = [dict(zip(desk.rules.kinds, numbers)) for numbers, _ in reached]
    found = []
    for rule in desk.rules.listed:
        totals = [total_in(many, rule.kinds) for many in places]
        found.append((min([int(total) for total in totals]), max([int(total) for total in totals])))
    return found


def _late_standings(survey):
    """Return the standings behind an event that breaks a rule, and in late histories."""
    late = {step[0]: True for _, step in survey.breaking_steps()}
    pending = list(late)
    room = _MOST_WITH_LATE - len(survey.crowd.standings)
    while pending:
        if len(late) > room:
            raise TooMany("standings")
        for behind in _late_behind(survey, pending.pop()):
            if behind not in late:
                late[behind] = True
                pending.append(behind)
    return list(late)


def _late_behind(survey, standing):
    """Return the standings of an owner behind one more line of its calls, which may touch any other owner."""
    found = []
    for turn in turns_of(survey.used_desk, standing, True):
        sights = [None]
        if turn.step.touches:
            seen = [view.sight for view in survey.crowd.views_of(turn.plan.name)]
            sights = [sight for sight in seen if not has_to_wait(turn, sight)]
        for sight in sights:
            found.extend([behind for _, behind in ends_of(survey.used_desk, turn, sight)])
    return found
