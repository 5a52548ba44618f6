"""Whole calls at two desks beside each other."""

from countsheld.drafts import drafts_of
from countsheld.places import Place
from countsheld.sights import others_behind, sight_of


def whole_call(desk, plan, kind, home, other):
    """Return a list of the outcomes of a whole call of the door; home and other are numbers, other perhaps None.

    kind is that of the named row. A door that names none passes it over.
    """
    label = kind if plan.names_row else ""
    found = {}
    reached = [(home, other, label)]
    for step in plan.steps:
        behind = {}
        for before in reached:
            refused, let = _behind_line(desk, plan, step, before)
            if refused:
                found[_outcome("refused", before, plan, kind)] = True
            for one in let:
                behind[one] = True
        reached = list(behind)
    for last in reached:
        found[_outcome("let", last, plan, kind)] = True
    return list(found)


def _outcome(word, reached, plan, kind):
    home, other, label = reached
    return word, home, other, label if plan.names_row else kind


def _behind_line(desk, plan, step, before):
    """Return whether the line may be refused, and a list of what may be behind it otherwise."""
    home, other, label = before
    place = Place(dict(zip(desk.rules.kinds, home)), [label], [()])
    sight = sight_of(desk, plan, (other, ())) if step.touches else None
    drafts = drafts_of(desk, step, place, 0, sight)
    let = []
    for draft in drafts:
        if not draft.is_refused:
            numbers = tuple([draft.many[one] for one in desk.rules.kinds])
            let.append((numbers, _other_behind(desk.rules, other, draft.effect), draft.labels[0]))
    return any([draft.is_refused for draft in drafts]), let


def _other_behind(rules, other, effect):
    """Return the numbers of the other owner, which is at rest, behind the effect; None if there is none."""
    if other is None:
        return None
    # No call names a row of an owner at rest, so there is one standing.
    standing, _ = others_behind(rules, (other, ()), effect)[0]
    return None if standing is None else standing[0]


class Pairing:
    """Two desks, and the numbers that owners can have at both, each let in once.

    A call is a tuple (door, kind, home, other); home and other are indexes of numbers that are in.
    """

    def __init__(self, one, other):
        self._desks = (one, other)
        names = [plan.name for plan in one]
        self.names = [*names, *[plan.name for plan in other if plan.name not in names]]
        self.rules = one.rules
        self.numbers_in = []
        # The calls whose outcomes differ.
        self.parting = []

    def admit(self, numbers):
        """Let numbers in; return the new steps as pairs (index of the numbers before, step)."""
        at = len(self.numbers_in)
        self.numbers_in.append(numbers)
        fresh = []
        for name in self.names:
            for kind in self.kinds_for(name):
                if not self.touches_in_one(name):
                    fresh.extend(self._call(name, kind, at, None))
                    continue
                for beside in range(at):
                    fresh.extend(self._call(name, kind, beside, at))
                    fresh.extend(self._call(name, kind, at, beside))
                fresh.extend(self._call(name, kind, at, at))
        return fresh

    def lets_in(self, numbers):
        """Tell whether owners have the numbers within the rules."""
        return self.rules.includes(numbers)

    def kinds_for(self, name):
        """Return the kinds that the row may have which a call of the door names; None if it names none."""
        plans = self._plans(name)
        if any([plan.names_row for plan in plans]):
            return [*self.rules.kinds, *self.rules.loose]
        return [None]

    def touches_in_one(self, name):
        """Tell whether the door touches an owner in one of the desks."""
        return any([plan.touches for plan in self._plans(name)])

    def both_outcomes(self, name, kind, home, other):
        """Return the outcomes of the call at each of the desks; home and other are numbers."""
        if kind in self.rules.kinds and dict(zip(self.rules.kinds, home))[kind] == 0:
            return [], []
        some, others = [_outcomes_at(desk, name, kind, home, other) for desk in self._desks]
        return some, others

    def common_outcomes(self, name, kind, home, other):
        """Return the outcomes at both desks within the rules, and whether none is that of one desk alone."""
        some, others = self.both_outcomes(name, kind, home, other)
        common = [outcome for outcome in some if outcome in others]
        within = [outcome for outcome in common if self._is_within(outcome)]
        return within, len(common) == len(some) == len(others)

    def _plans(self, name):
        return [desk[name] for desk in self._desks if name in desk]

    def _is_within(self, outcome):
        _, home, other, _ = outcome
        return self.rules.includes(home) and (other is None or self.rules.includes(other))

    def _call(self, name, kind, home, other):
        """Return the steps of the call, and note it if its outcomes differ."""
        told = None if other is None else self.numbers_in[other]
        common, is_same = self.common_outcomes(name, kind, self.numbers_in[home], told)
        if not is_same:
            self.parting.append((name, kind, home, other))
        fresh = []
        for _, mine, theirs, _ in common:
            fresh.append((home, (mine, "home", other)))
            if theirs is not None:
                fresh.append((other, (theirs, "other", home)))
        return fresh


def _outcomes_at(desk, name, kind, home, other):
    """Return the outcomes at one of the desks; a door that it does not have is refused."""
    if name not in desk:
        return [("refused", home, other, kind)]
    return whole_call(desk, desk[name], kind, home, other)
