"""What a line that touches an owner sees of it, and what it does to it."""

from countsheld.places import Place, is_held, place_of, standing_at, total_in
from countsheld.rules import allows
from countsheld.signs import passes


class Sight:
    """What a line sees of an owner: owners with equal keys are the same to it.

    meets: whether its tests with `other` hold; has_free, has_named: whether it may take a row that
    no call names, or that one names; unkept: the first rule of the store that would not hold
    there, or None; stays: whether the owner would be within the rules; arriving: the rows that
    `join` brings.
    """

    def __init__(self, meets, held, free_named, behind, arriving):
        self.meets = meets
        self.held = held
        self.has_free, self.has_named = free_named
        self.unkept, self.stays = behind
        self.arriving = arriving
        self.key = (meets, held, free_named, behind, arriving)


def sight_of(desk, plan, standing):
    """Return what the line of the door that touches sees of an owner with this standing."""
    step = plan.steps[plan.touching]
    place = place_of(desk.rules, standing)
    meets = all([passes(test, total_in(place.many, test.kinds)) for test in step.tests if test.whose == "other"])
    held = is_held(desk, standing)
    part = [one for one in step.parts if one.word in ("give", "take", "join")][0]
    if part.word == "join":
        return Sight(meets, held, (True, True), (None, True), standing[0])
    if part.word == "give":
        return Sight(meets, held, (True, True), _behind(desk, place.many, part.after, 1), ())
    kind = part.kinds[0]
    choice = (may_be_free(place.many, place.labels, kind), kind in place.labels)
    return Sight(meets, held, choice, _behind(desk, place.many, kind, -1), ())


def may_be_free(many, labels, kind):
    """Tell whether there may be a row of the kind that no call names."""
    return kind not in many or many[kind] > labels.count(kind)


def unkept_rule(desk, many):
    """Return the first rule of the store that does not hold for so many rows, or None."""
    for at in desk.store:
        rule = desk.rules.listed[at]
        if not allows(rule, total_in(many, rule.kinds)):
            return at
    return None


def others_behind(rules, standing, effect):
    """Return what an owner with this standing may be behind a line that does this to it.

    Each is a pair: the standing, None if the owner exists no longer; and the index of the group
    whose row is taken, or None. The effect is a pair of a word and a kind.
    """
    word, kind = effect
    if word == "same":
        return [(standing, None)]
    if word == "end":
        return [(None, None)]
    place = place_of(rules, standing)
    many = _with_more(place.many, kind, 1 if word == "gain" else -1)
    if word != "named":
        return [(standing_at(rules, Place(many, place.labels, place.groups)), None)]
    found = []
    for at, label in enumerate(place.labels):
        if label == kind:
            labels = [*place.labels[:at], "gone", *place.labels[at + 1:]]
            found.append((standing_at(rules, Place(many, labels, place.groups)), at))
    return found


def _behind(desk, many, kind, more):
    after = _with_more(many, kind, more)
    numbers = tuple([after[one] for one in desk.rules.kinds])
    return unkept_rule(desk, after), desk.rules.includes(numbers)


def _with_more(many, kind, more):
    """Return so many rows, with more of the kind if it is ruled."""
    after = {one: number for one, number in many.items()}
    if kind in after:
        after[kind] = after[kind] + more
    return after
