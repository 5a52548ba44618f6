"""Rules of how many rows of some kinds an owner has, and sets of rules."""

from countsheld.counts import Counts
from countsheld.errors import BadRule, BadRules, BadWord
from countsheld.words import is_digit, is_index, is_kind, is_word


class Rule:
    """The base class of the rules; it is not called itself."""

    def __init__(self, least, most, kinds):
        self.least = least
        self.most = most
        self.kinds = tuple(kinds)

    def total_of(self, counts):
        """Return the sum of the integers of the kinds."""
        return sum([counts[kind] for kind in self.kinds])

    def __eq__(self, other):
        if not isinstance(other, Rule) or self.least != other.least or self.most != other.most:
            return False
        return sorted(self.kinds, key=str) == sorted(other.kinds, key=str)


class AtLeast(Rule):
    """The rule that the total is not below a number."""

    def __init__(self, least, *kinds):
        _check_rule([least], kinds)
        Rule.__init__(self, least, None, kinds)

    def holds(self, counts):
        """Tell whether the rule holds for the counts."""
        return allows(self, self.total_of(counts))

    def lacks(self, counts):
        """Return how many rows are too few, or none."""
        return _lacking(self, self.total_of(counts))

    def __str__(self):
        return f"at least {self.least} {_written_kinds(self)}"


class AtMost(Rule):
    """The rule that the total is not above a number."""

    def __init__(self, most, *kinds):
        _check_rule([most], kinds)
        Rule.__init__(self, 0, most, kinds)

    def holds(self, counts):
        """Tell whether the rule holds for the counts."""
        return allows(self, self.total_of(counts))

    def lacks(self, counts):
        """Return how many rows are too few or too many."""
        return _lacking(self, self.total_of(counts))

    def __str__(self):
        return f"at most {self.most} {_written_kinds(self)}"


class Between(AtLeast, AtMost):
    """The rule that the total is neither below a number nor above another."""

    def __init__(self, least, most, *kinds):
        _check_rule([least, most], kinds)
        self.least = least
        self.most = most
        self.kinds = tuple(kinds)

    def holds(self, counts):
        """Tell whether the rule holds for the counts."""
        return allows(self, self.total_of(counts))

    def lacks(self, counts):
        """Return how many rows are too few or too many."""
        return _lacking(self, self.total_of(counts))

    def __str__(self):
        return f"from {self.least} to {self.most} {_written_kinds(self)}"


class Exactly(Between):
    """The rule that the total is a number."""

    def __init__(self, number, *kinds):
        _check_rule([number], kinds)
        self.least = number
        self.most = number
        self.kinds = tuple(kinds)

    def holds(self, counts):
        """Tell whether the rule holds for the counts."""
        return allows(self, self.total_of(counts))

    def lacks(self, counts):
        """Return how many rows are too few or too many."""
        return _lacking(self, self.total_of(counts))

    def __str__(self):
        return f"exactly {self.least} {_written_kinds(self)}"


def read_rule(text):
    """Return the rule that is written so, of the class whose form it is."""
    tokens = text.split(" ") if isinstance(text, str) else []
    if _begins_as(tokens, ("at", "least", "#")):
        kinds = _words_between_signs(tokens[3:])
        return AtLeast(int(tokens[2]), *kinds)
    if _begins_as(tokens, ("at", "most", "#")):
        kinds = _words_between_signs(tokens[3:])
        return AtMost(int(tokens[2]), *kinds)
    if _begins_as(tokens, ("from", "#", "to", "#")):
        kinds = _words_between_signs(tokens[4:])
        return Between(int(tokens[1]), int(tokens[3]), *kinds)
    if _begins_as(tokens, ("exactly", "#")):
        kinds = _words_between_signs(tokens[2:])
        return Exactly(int(tokens[1]), *kinds)
    raise BadRule("text")


class Rules:
    """A set of rules, with its ruled and its loose kinds."""

    def __init__(self, *rules, loose=()):
        _check_rules(rules)
        ruled = _ruled_kinds(rules)
        _check_loose(loose, ruled)
        caps = _caps_of(rules)
        _check_caps(ruled, caps)
        self.listed = tuple(rules)
        self.kinds = tuple(ruled)
        self.loose = tuple(sorted(loose, key=str))
        self._caps = caps
        # No ruled kind goes beyond its cap, so these few decide about all counts.
        self._within = _numbers_within(rules, ruled, caps)
        self._known = {numbers: True for numbers in self._within}

    @classmethod
    def of(cls, rules, loose=()):
        """Return the set of a list of rules."""
        return cls(*rules, loose=loose)

    def cap(self, kind):
        """Return the smallest most of the rules that the kind is in."""
        if kind not in self.kinds:
            raise BadWord(kind)
        return self._caps[kind]

    def __contains__(self, x):
        if not isinstance(x, Counts) or self.broken(x):
            return False
        return all([number >= 0 for number in self.numbers(x)])

    def broken(self, counts):
        """Return the indexes of the rules that do not hold, ascending."""
        return tuple([at for at, rule in enumerate(self.listed) if not rule.holds(counts)])

    def numbers(self, counts):
        """Return the integers of the ruled kinds, in the order of the kinds."""
        return tuple([counts[kind] for kind in self.kinds])

    def includes(self, numbers):
        """Tell whether counts with these numbers are within the rules."""
        return numbers in self._known

    def each(self):
        """Yield all counts of ruled kinds within the rules, with ascending numbers."""
        for numbers in self._within:
            yield Counts.of(list(zip(self.kinds, numbers)))

    def __len__(self):
        return len(self._within)

    def __eq__(self, other):
        if not isinstance(other, Rules) or self.kinds != other.kinds or self.loose != other.loose:
            return False
        return self._within == other._within


def _check_rule(numbers, kinds):
    """Raise BadRule unless a rule can have these numbers, the least first, and these kinds."""
    for number in numbers:
        if not is_index(number, 10):
            raise BadRule("number")
    if numbers[0] > numbers[-1]:
        raise BadRule("number")
    if not 1 <= len(kinds) <= 3:
        raise BadRule("kinds")
    for at, kind in enumerate(kinds):
        if not is_kind(kind) or kind in kinds[:at]:
            raise BadRule("kinds")


def allows(rule, total):
    """Tell whether the rule holds for counts with this total."""
    return rule.least <= total and (rule.most is None or total <= rule.most)


def _lacking(rule, total):
    if total < rule.least:
        return [("few", rule.least - total)]
    if rule.most is not None and total > rule.most:
        return [("many", total - rule.most)]
    return []


def _written_kinds(rule):
    return " + ".join(rule.kinds)


def _begins_as(tokens, form):
    """Tell whether the first tokens are those of the form, with a digit for each #."""
    if len(tokens) < len(form):
        return False
    return all([is_digit(token) if part == "#" else token == part for token, part in zip(tokens, form)])


def _words_between_signs(tokens):
    """Return the words that the tokens are, with a + between each two."""
    words = tokens[::2]
    signs = tokens[1::2]
    if len(words) != len(signs) + 1 or not all([is_word(word) for word in words]):
        raise BadRule("text")
    if not all([sign == "+" for sign in signs]):
        raise BadRule("text")
    return words


def _check_rules(rules):
    if not 1 <= len(rules) <= 4 or not all([isinstance(rule, Rule) for rule in rules]):
        raise BadRules("rules")


def _ruled_kinds(rules):
    """Return all kinds of the rules, each once, ascending."""
    found = []
    for rule in rules:
        for kind in rule.kinds:
            if kind not in found:
                found.append(kind)
    return sorted(found, key=str)


def _check_loose(loose, ruled):
    if not isinstance(loose, (list, tuple)) or len(loose) > 2:
        raise BadRules("loose")
    for at, kind in enumerate(loose):
        if not is_kind(kind) or kind in ruled or kind in loose[:at]:
            raise BadRules("loose")


def _caps_of(rules):
    """Return the cap of each kind that is in a rule with a most."""
    caps = {}
    for rule in rules:
        if rule.most is not None:
            for kind in rule.kinds:
                caps[kind] = min(int(rule.most), int(caps.get(kind, rule.most)))
    return caps


def _check_caps(ruled, caps):
    if len(ruled) > 4 or not all([kind in caps for kind in ruled]):
        raise BadRules("kinds")
    many = 1
    for kind in ruled:
        many = many * (caps[kind] + 1)
    if many > 1000:
        raise BadRules("counts")


def _numbers_within(rules, ruled, caps):
    """Return the numbers of all counts within the rules, ascending."""
    found = [()]
    for kind in ruled:
        found = [(*numbers, number) for numbers in found for number in range(caps[kind] + 1)]
    for rule in rules:
        places = [at for at, kind in enumerate(ruled) if kind in rule.kinds]
        found = [numbers for numbers in found if allows(rule, sum([numbers[at] for at in places]))]
    return found
