"""Which values are words, kinds, integers and digits."""

_LETTERS = "abcdefghijklmnopqrstuvwxyz"
_DIGITS = "0123456789"
_BEYOND = 10 ** 30

# These words have a meaning of their own in the lines of a door.
_BARRED = (
    "hold", "look", "do", "row", "one", "all", "new", "give", "take",
    "join", "other", "if", "and", "or", "then", "gone",
)


def is_word(value):
    """Tell whether any value is a string of one to eight letters a to z."""
    if not isinstance(value, str) or not 1 <= len(value) <= 8:
        return False
    return all([letter in _LETTERS for letter in value])


def is_kind(value):
    """Tell whether any value is a word that may be a kind of rows."""
    return is_word(value) and value not in _BARRED


def is_number(value):
    """Tell whether any value is an integer; True and False are none."""
    return isinstance(value, int) and not isinstance(value, bool)


def is_index(value, end):
    """Tell whether any value is an integer from 0 to below the end."""
    return is_number(value) and 0 <= value < end


def is_short(value):
    """Tell whether any value is an integer of at most thirty digits."""
    return is_number(value) and -_BEYOND < value < _BEYOND


def is_digit(value):
    """Tell whether any value is a string of one digit."""
    # The empty string is in every string, and a longer one may be in _DIGITS too.
    return isinstance(value, str) and len(value) == 1 and value in _DIGITS
