"""Ascending order of tuples."""


def ascending(things):
    """Return a list of the tuples, in ascending order; few of them, or most of them in this order."""
    made = []
    for thing in things:
        at = len(made)
        while at > 0 and thing < made[at - 1]:
            at = at - 1
        made.insert(at, thing)
    return made


def is_ascending(things):
    """Tell whether none of the tuples is less than the one ahead of it."""
    return all([not things[at + 1] < things[at] for at in range(len(things) - 1)])
