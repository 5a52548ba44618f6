"""Owners as their standings show them."""

from countsheld.order import ascending


class Place:
    """An owner: how many rows of each ruled kind it has, and the label and the calls of each group."""

    def __init__(self, many, labels, groups):
        self.many = many
        self.labels = labels
        self.groups = groups


def place_of(rules, standing):
    """Return the owner with this standing."""
    numbers, groups = standing
    many = dict(zip(rules.kinds, numbers))
    return Place(many, [label for label, _ in groups], [calls for _, calls in groups])


def standing_at(rules, place):
    """Return the standing of the owner; groups without calls are none, and those that are gone are one."""
    listed = []
    gone = []
    for label, calls in zip(place.labels, place.groups):
        if label == "gone":
            gone.extend(list(calls))
        elif calls:
            listed.append((label, tuple(calls)))
    if gone:
        listed.append(("gone", tuple(ascending(gone))))
    return tuple([place.many[kind] for kind in rules.kinds]), tuple(ascending(listed))


def is_held(desk, standing):
    """Tell whether a call at an owner with this standing holds it."""
    _, groups = standing
    return any([has_held(desk[name], at) for _, calls in groups for name, at in calls])


def has_held(plan, at):
    """Tell whether a call of the door that comes to this line has executed a line `hold`."""
    return "hold" in plan.lines[:at]


def total_in(many, kinds):
    """Return how many rows of these kinds there are; many has the ruled kinds alone."""
    return sum([many[kind] for kind in kinds])
