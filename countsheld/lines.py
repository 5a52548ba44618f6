"""How the lines of doors are written, and what they say."""

from countsheld.words import is_digit, is_kind

_SIGNS = ("<", "<=", "=", "!=", ">=", ">")
_MOST = 4


class Test:
    """A test of the named row (whose is "row"), or of how many rows an owner ("home", "other") has."""

    def __init__(self, whose, kinds, sign, number):
        self.whose = whose
        self.kinds = kinds
        self.sign = sign
        self.number = number


class Part:
    """A part: its first word, the kinds that it takes rows of, and what becomes of them."""

    def __init__(self, word, kinds, after):
        self.word = word
        self.kinds = kinds
        self.after = after


class Line:
    """A line of a door: its first word, its parts and its tests."""

    def __init__(self, word, parts, tests):
        words = [part.word for part in parts] + [test.whose for test in tests]
        self.word = word
        self.parts = tuple(parts)
        self.tests = tuple(tests)
        self.names_row = "row" in words or "give" in words
        self.touches = "give" in words or "take" in words or "join" in words


def read_line(text):
    """Return the line that any value is, or None if it is not written as one."""
    tokens = text.split(" ") if isinstance(text, str) else []
    if tokens == ["hold"]:
        return Line("hold", [], [])
    if tokens[:1] == ["look"]:
        return _line_of("look", [], _split_at(tokens[1:], "and"))
    if tokens[:1] != ["do"]:
        return None
    ahead, behind = _beside_first(tokens[1:], "if")
    return _line_of("do", _split_at(ahead, "then"), [] if behind is None else _split_at(behind, "and"))


def kinds_of(line):
    """Return all kinds in the line; some of them perhaps twice."""
    found = []
    for part in line.parts:
        found.extend(list(part.kinds))
        if is_kind(part.after):
            found.append(part.after)
    for test in line.tests:
        found.extend(list(test.kinds))
    return found


def _beside_first(tokens, word):
    """Return the tokens ahead of the first such word and those behind it; None for these if there is none."""
    for at, token in enumerate(tokens):
        if token == word:
            return tokens[:at], tokens[at + 1:]
    return tokens, None


def _split_at(tokens, word):
    """Return the lists of tokens between which the word stands."""
    found = [[]]
    for token in tokens:
        if token == word:
            found.append([])
        else:
            found[-1].append(token)
    return found


def _line_of(word, written_parts, written_tests):
    """Return the line of these lists of tokens, or None if a rule for lines is not met."""
    parts = [_read_part(tokens) for tokens in written_parts]
    tests = [_read_test(tokens) for tokens in written_tests]
    if len(parts) > _MOST or len(tests) > _MOST:
        return None
    if any([part is None for part in parts]) or any([test is None for test in tests]):
        return None
    if _how_often(parts, ("row", "give")) > 1 or _how_often(parts, ("give", "take", "join")) > 1:
        return None
    line = Line(word, parts, tests)
    if not line.touches and any([test.whose == "other" for test in tests]):
        return None
    return line


def _how_often(parts, words):
    return len([part for part in parts if part.word in words])


def _read_test(tokens):
    """Return the test that the tokens are, or None."""
    if tokens[:1] == ["row"]:
        named = _read_kinds(tokens[1:], "or")
        return Test("row", named, None, None) if named else None
    whose = "other" if tokens[:1] == ["other"] else "home"
    rest = tokens[1:] if whose == "other" else tokens
    if len(rest) < 3 or rest[-2] not in _SIGNS or not is_digit(rest[-1]):
        return None
    summed = _read_kinds(rest[:-2], "+")
    return Test(whose, summed, rest[-2], int(rest[-1])) if summed else None


def _read_part(tokens):
    """Return the part that the tokens are, or None."""
    if tokens == ["join"]:
        return Part("join", (), None)
    if tokens[:1] == ["new"]:
        return Part("new", (), tokens[1]) if len(tokens) == 2 and is_kind(tokens[1]) else None
    if len(tokens) < 4 or tokens[-2] != "->":
        return None
    kinds = _read_kinds(tokens[1:-2], "or")
    if not kinds or not _may_become(tokens[0], tokens[-1]):
        return None
    if len(kinds) > 1 and tokens[0] not in ("row", "give"):
        return None
    return Part(tokens[0], kinds, tokens[-1])


def _may_become(word, after):
    """Tell whether a part with this first word and an arrow may have this behind the arrow."""
    if word in ("row", "one", "all"):
        return is_kind(after) or after == "gone"
    return word in ("give", "take") and is_kind(after)


def _read_kinds(tokens, sign):
    """Return the different kinds between which the sign stands, or () if there is anything else."""
    kinds = tokens[::2]
    signs = tokens[1::2]
    if len(kinds) != len(signs) + 1 or not all([one == sign for one in signs]):
        return ()
    if not all([is_kind(kind) and kind not in kinds[:at] for at, kind in enumerate(kinds)]):
        return ()
    return tuple(kinds)
