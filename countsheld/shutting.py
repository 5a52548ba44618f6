"""Doors that can be carried through, and doors that never can be again."""

from countsheld.errors import NotKept, NoWay
from countsheld.judging import survey_of
from countsheld.order import ascending
from countsheld.standings import at_rest
from countsheld.turns import ends_of, has_to_wait, turns_of


class Prospect:
    """What owners of a kept desk can come to: the next possible standings, and the open doors at rest."""

    def __init__(self, desk):
        survey = survey_of(desk)
        if survey.breaking_steps():
            raise NotKept()
        self.used_desk = desk
        self.survey = survey
        # In the order of the standings: a dict of the next ones of each.
        self.upcoming = [{step[0]: True for step in steps} for steps in survey.web.steps_from]

    def check_counts(self, counts):
        """Return the standing at rest of the counts; raise NoWay if it is not possible."""
        standing = at_rest(self.used_desk, counts)
        if self.survey.place_in_web(standing) is None:
            raise NoWay(standing)
        return standing

    def upcoming_of(self, standing):
        """Return the next standings of an owner with this possible standing, as the keys of a dict."""
        return self.upcoming[self.survey.web.place_by_thing[standing]]

    def resting(self):
        """Return a list of the possible standings at rest, ascending."""
        return ascending([standing for standing in self.survey.crowd.standings if standing[1] == ()])

    def lets_through(self, plan, standing):
        """Tell whether an owner with this standing is at rest and can carry through a call of the door."""
        if standing[1] != ():
            return False
        reached = [standing]
        for at in range(len(plan)):
            found = {}
            for before in reached:
                for behind in self._behind_line(plan, at, before):
                    found[behind] = True
            reached = list(found)
        return bool(reached)

    def _behind_line(self, plan, at, standing):
        """Return the standings behind this line of a call of the door, the only one, if it is not refused."""
        found = []
        for turn in turns_of(self.used_desk, standing, at > 0):
            if turn.plan.name == plan.name and turn.at == at:
                for sight in self._sights_for(turn):
                    ends = ends_of(self.used_desk, turn, sight)
                    found.extend([behind for draft, behind in ends if not draft.is_refused])
        return found

    def _sights_for(self, turn):
        if not turn.step.touches:
            return [None]
        sights = [view.sight for view in self.survey.crowd.views_of(turn.plan.name)]
        return [sight for sight in sights if not has_to_wait(turn, sight)]


def openings(desk, counts):
    """Return a list of the names of the doors that are open at the counts, in the order of the desk."""
    prospect = Prospect(desk)
    standing = prospect.check_counts(counts)
    return [plan.name for plan in desk if prospect.lets_through(plan, standing)]


def shut(desk):
    """Return a list of pairs (name, numbers) of all doors that are shut for ever at counts at rest."""
    prospect = Prospect(desk)
    coming = [(standing[0], _all_later(prospect, standing)) for standing in prospect.resting()]
    found = []
    for plan in desk:
        open_at = _opening(prospect, plan)
        for numbers, later in coming:
            if not any([standing in open_at for standing in later]):
                found.append((plan.name, numbers))
    return found


def future(desk, door, counts):
    """Return what shows that the door is shut for ever at the counts, or how it opens as soon as can be."""
    prospect = Prospect(desk)
    plan = desk[door]
    standing = prospect.check_counts(counts)
    open_at = _opening(prospect, plan)
    before = {standing: None}
    reached = [standing]
    while reached:
        for later in reached:
            if later in open_at:
                return "opens", _path_to(before, later)
        reached = _grow(prospect, before, reached)
    return "shut", tuple(before)


def is_future(desk, door, counts, thing):
    """Tell whether any value is a future of the door and the counts."""
    prospect = Prospect(desk)
    plan = desk[door]
    standing = prospect.check_counts(counts)
    if not isinstance(thing, tuple) or len(thing) != 2:
        return False
    word, listed = thing
    if not isinstance(listed, tuple) or len(listed) == 0:
        return False
    if not all([prospect.survey.place_in_web(one) is not None for one in listed]):
        return False
    if word == "shut":
        return _stays_shut(prospect, plan, standing, listed)
    return word == "opens" and _comes_to_open(prospect, plan, standing, listed)


def _stays_shut(prospect, plan, standing, listed):
    known = {one: True for one in listed}
    if standing not in known:
        return False
    if any([prospect.lets_through(plan, one) for one in known]):
        return False
    return all([later in known for one in known for later in prospect.upcoming_of(one)])


def _comes_to_open(prospect, plan, standing, listed):
    if listed[0] != standing or not prospect.lets_through(plan, listed[-1]):
        return False
    return all([listed[at + 1] in prospect.upcoming_of(listed[at]) for at in range(len(listed) - 1)])


def _opening(prospect, plan):
    """Return a dict of the possible standings at rest at which the door is open."""
    return {standing: True for standing in prospect.resting() if prospect.lets_through(plan, standing)}


def _all_later(prospect, standing):
    """Return a list of the standing and all that the owner can have later."""
    before = {standing: None}
    reached = [standing]
    while reached:
        reached = _grow(prospect, before, reached)
    return list(before)


def _grow(prospect, before, reached):
    """Return the next standings of those reached that are new; put them, with those before them, into before."""
    fresh = []
    for one in reached:
        for later in prospect.upcoming_of(one):
            if later not in before:
                before[later] = one
                fresh.append(later)
    return fresh


def _path_to(before, last):
    path = [last]
    while before[path[-1]] is not None:
        path.append(before[path[-1]])
    return tuple(path[::-1])
