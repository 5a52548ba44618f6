"""The lines of a desk's text ahead of its first door."""

from countsheld.errors import BadText
from countsheld.words import is_digit, is_word

# Which lines may stand right behind a line; "" is the beginning of the text.
_BEHIND = {
    "": ("rule",),
    "rule": ("rule", "loose", "begin"),
    "loose": ("loose", "begin"),
    "begin": ("begin", "limit"),
    "limit": ("store", "door"),
    "store": ("store", "door"),
}


def length_of_head(lines):
    """Return how many lines stand ahead of the first door; raise BadText if one cannot stand there."""
    before = ""
    for at, line in enumerate(lines):
        word = _word_of(line)
        if word not in _BEHIND[before]:
            raise BadText(at)
        if word == "door":
            return at
        before = word
    raise BadText(len(lines))


def rest_of(head, word):
    """Return what stands behind the word and a space in each line that begins with the word."""
    found = []
    for line in head:
        first, _, rest = line.partition(" ")
        if first == word:
            found.append(rest)
    return found


def begin_of(rest):
    """Return the pairs (word, integer) that stand behind `begin`; a word may stand there twice."""
    tokens = rest.split(" ")
    return [(word, int(digit)) for word, digit in zip(tokens[::2], tokens[1::2])]


def _word_of(line):
    """Return the first word of a line that is written well, or None."""
    word, space, rest = line.partition(" ")
    if word == "begin":
        return word if line == word or _is_begin(rest) else None
    if word in ("limit", "store"):
        return word if is_digit(rest) else None
    if word in ("rule", "loose", "door"):
        return word if space else None
    return None


def _is_begin(rest):
    """Tell whether the text is words and digits in turn."""
    tokens = rest.split(" ")
    words = tokens[::2]
    digits = tokens[1::2]
    if len(words) != len(digits):
        return False
    return all([is_word(word) for word in words]) and all([is_digit(digit) for digit in digits])
