"""The signs that compare a number of rows with a number."""

# Whether a sign lets a number pass that is below, equal to or above the one behind it.
_PASSES = {
    "<": (True, False, False),
    "<=": (True, True, False),
    "=": (False, True, False),
    "!=": (True, False, True),
    ">=": (False, True, True),
    ">": (False, False, True),
}


def passes(test, many):
    """Tell whether a test with a sum holds for so many rows."""
    below, equal, above = _PASSES[test.sign]
    if many < test.number:
        return below
    return equal if many == test.number else above
