"""Owners that meet: what standings make of each other."""

from countsheld.sights import others_behind, sight_of
from countsheld.turns import ends_of, has_to_wait, turns_of


class View:
    """What a line sees of owners, the indexes of their standings, and the first home for each effect on them."""

    def __init__(self, sight, at):
        self.sight = sight
        self.seen = [at]
        self.homes = {}


class Crowd:
    """Standings of a desk, each let in once, and what becomes of each through all that are in.

    A step is a tuple (standing, role, partner): what becomes, as which part, and the index of the
    standing of the other owner, or None. The standing behind it is within the rules exactly if the
    event breaks no rule, for neither owner.
    """

    def __init__(self, desk):
        self.used_desk = desk
        self.standings = []
        # For each door that touches the homes that can execute its touching line: (index, turn).
        self._callers = {plan.name: [] for plan in desk if plan.touches}
        # For each of these doors what its line sees, by the keys of the sights.
        self._views = {name: {} for name in self._callers}
        # (door, line, rule) of the lines that the store refuses.
        self.unkept = {}

    def admit(self, standing):
        """Let a standing in; return the new steps as pairs (index of the standing before, step)."""
        at = len(self.standings)
        self.standings.append(standing)
        fresh = []
        for turn in turns_of(self.used_desk, standing, False):
            if turn.step.touches:
                self._callers[turn.plan.name].append((at, turn))
                for view in self.views_of(turn.plan.name):
                    fresh.extend(self._meet(at, turn, view))
            else:
                for draft, behind in ends_of(self.used_desk, turn, None):
                    self._note(turn, draft)
                    fresh.append((at, (behind, "alone", None)))
        for name in self._callers:
            fresh.extend(self._be_seen(at, name))
        return fresh

    def lets_in(self, standing):
        """Tell whether an owner has the standing before an event breaks a rule, if a step leads to it."""
        return self.used_desk.rules.includes(standing[0])

    def views_of(self, name):
        """Return a list of the different views of owners that the touching line of the door has."""
        return list(self._views[name].values())

    def _be_seen(self, at, name):
        """Let the line of the door see the standing that was let in last."""
        sight = sight_of(self.used_desk, self.used_desk[name], self.standings[at])
        if sight.key not in self._views[name]:
            view = View(sight, at)
            self._views[name][sight.key] = view
            return [found for home, turn in self._callers[name] for found in self._meet(home, turn, view)]
        view = self._views[name][sight.key]
        view.seen.append(at)
        fresh = []
        for effect, home in view.homes.items():
            fresh.extend(self._suffer(at, effect, home))
        return fresh

    def _meet(self, home, turn, view):
        """Let the line of the home's call meet the owners of the view."""
        if has_to_wait(turn, view.sight):
            return []
        fresh = []
        for draft, behind in ends_of(self.used_desk, turn, view.sight):
            self._note(turn, draft)
            is_within = self.used_desk.rules.includes(behind[0])
            stays = view.sight.stays or draft.effect[0] == "same"
            if stays or not is_within:
                fresh.append((home, (behind, "home", view.seen[0])))
            if draft.effect not in view.homes and (is_within or not stays):
                view.homes[draft.effect] = home
                for at in view.seen:
                    fresh.extend(self._suffer(at, draft.effect, home))
        return fresh

    def _suffer(self, at, effect, home):
        """Return the steps of the touched owner behind the effect that the home has on it."""
        found = others_behind(self.used_desk.rules, self.standings[at], effect)
        return [(at, (behind, "other", home)) for behind, _ in found if behind is not None]

    def _note(self, turn, draft):
        if draft.unkept is not None:
            self.unkept[(turn.plan.name, turn.at, draft.unkept)] = True
