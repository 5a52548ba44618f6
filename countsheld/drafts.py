"""How a line is executed at an owner of which its standing is known alone."""

from countsheld.places import total_in
from countsheld.sights import may_be_free, unkept_rule
from countsheld.signs import passes


class Draft:
    """An owner while a line is executed at it, and what the line does to the owner that it touches.

    own: the index of the group of the call whose line it is. effect: a word and a kind. choices:
    for each part `one` or `take` the index of the group whose row is chosen (of the touched
    owner's rows: "named"), or None for a row that no call names. is_refused: whether the line is
    refused; then unkept is the rule of the store that is why, or None, and lacking a pair of an
    owner ("home" or "other") and a loose kind if it is refused only where that has no such row
    to choose from.
    """

    def __init__(self, many, labels, own):
        self.many = many
        self.labels = labels
        self.own = own
        self.effect = ("same", None)
        self.choices = ()
        self.is_refused = False
        self.unkept = None
        self.lacking = None


def drafts_of(desk, step, place, own, sight):
    """Return what may be behind the line, for each choice of rows; sight is None if it touches no owner."""
    draft = Draft(dict(place.many), list(place.labels), own)
    if not all([_test_holds(test, draft) for test in step.tests]) or (sight is not None and not sight.meets):
        return [_refused(draft)]
    found = []
    going = [draft]
    for part in step.parts:
        action = _ACTIONS[part.word]
        reached = []
        for one in going:
            reached.extend(action(one, part, sight))
        found.extend([one for one in reached if one.is_refused])
        going = [one for one in reached if not one.is_refused]
    if step.word == "do":
        for one in going:
            _look_at_store(desk, one, sight)
    return found + going


def _test_holds(test, draft):
    """Tell whether the test holds; those of the touched owner are in the sight of it."""
    if test.whose == "row":
        return draft.labels[draft.own] in test.kinds
    return test.whose == "other" or passes(test, total_in(draft.many, test.kinds))


def _look_at_store(desk, draft, sight):
    unkept = unkept_rule(desk, draft.many)
    if unkept is None and sight is not None:
        unkept = sight.unkept
    if unkept is not None:
        draft.is_refused = True
        draft.unkept = unkept
        draft.effect = ("same", None)


def _refused(draft):
    draft.is_refused = True
    draft.effect = ("same", None)
    return draft


def _copy_of(draft, choice):
    """Return a draft like this one, in which the next part has chosen so."""
    made = Draft(dict(draft.many), list(draft.labels), draft.own)
    made.effect = draft.effect
    made.choices = (*draft.choices, choice)
    return made


def _add(draft, kind, more):
    # Rows of other kinds than the ruled ones are not counted.
    if kind in draft.many:
        draft.many[kind] = draft.many[kind] + more


def _change_named(draft, part, sight):
    label = draft.labels[draft.own]
    if label not in part.kinds:
        return [_refused(draft)]
    _add(draft, label, -1)
    _add(draft, part.after, 1)
    draft.labels[draft.own] = part.after
    return [draft]


def _change_one(draft, part, sight):
    kind = part.kinds[0]
    named = [at for at, label in enumerate(draft.labels) if label == kind and at != draft.own]
    choices = [None, *named] if may_be_free(draft.many, draft.labels, kind) else named
    found = []
    for choice in choices:
        made = _copy_of(draft, choice)
        _add(made, kind, -1)
        _add(made, part.after, 1)
        if choice is not None:
            made.labels[choice] = part.after
        found.append(made)
    return _with_refusal(found, draft, kind, "home", bool(named))


def _change_all(draft, part, sight):
    kind = part.kinds[0]
    kept = 1 if draft.labels[draft.own] == kind else 0
    moved = draft.many[kind] - kept
    _add(draft, kind, -moved)
    _add(draft, part.after, moved)
    for at, label in enumerate(list(draft.labels)):
        if label == kind and at != draft.own:
            draft.labels[at] = part.after
    return [draft]


def _enter_new(draft, part, sight):
    _add(draft, part.after, 1)
    return [draft]


def _give_named(draft, part, sight):
    label = draft.labels[draft.own]
    if label not in part.kinds:
        return [_refused(draft)]
    _add(draft, label, -1)
    draft.labels[draft.own] = "gone"
    draft.effect = ("gain", part.after)
    return [draft]


def _take_one(draft, part, sight):
    kind = part.kinds[0]
    found = []
    for choice, word, is_there in ((None, "free", sight.has_free), ("named", "named", sight.has_named)):
        if is_there:
            made = _copy_of(draft, choice)
            made.effect = (word, kind)
            _add(made, part.after, 1)
            found.append(made)
    return _with_refusal(found, draft, kind, "other", sight.has_named)


def _join_all(draft, part, sight):
    for kind, number in zip(list(draft.many), sight.arriving):
        _add(draft, kind, number)
    draft.effect = ("end", None)
    return [draft]


def _with_refusal(found, draft, kind, whose, is_named):
    """Return the drafts found, and the refused one where there may be no row to choose from."""
    # A row of a loose kind that no call names may always have left.
    may_leave = kind not in draft.many and not is_named
    if found and not may_leave:
        return found
    refused = _copy_of(draft, None)
    refused.lacking = (whose, kind) if may_leave else None
    return [*found, _refused(refused)]


_ACTIONS = {
    "row": _change_named,
    "one": _change_one,
    "all": _change_all,
    "new": _enter_new,
    "give": _give_named,
    "take": _take_one,
    "join": _join_all,
}
