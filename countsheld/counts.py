"""Counts: an integer for each word."""

from countsheld.errors import BadCounts, BadNumber, BadWord, NoDivisor
from countsheld.words import is_number, is_short, is_word


class Counts:
    """Integers by words; all but finitely many are 0, and they may be below 0."""

    def __init__(self, **numbers):
        for word, number in numbers.items():
            _check_word(word)
            _check_number(number)
        # Zeros are never stored: equality and length are those of the dict.
        self._numbers = {word: number for word, number in numbers.items() if number != 0}

    @classmethod
    def of(cls, pairs):
        """Return the counts of pairs (word, integer); the integers of one word are added."""
        if not isinstance(pairs, (list, tuple)):
            raise BadCounts(-1)
        for at, pair in enumerate(pairs):
            if not _is_pair(pair):
                raise BadCounts(at)
        totals = {}
        for word, number in pairs:
            totals[word] = totals.get(word, 0) + number
        return _counts_of(list(totals.items()))

    @classmethod
    def tally(cls, words):
        """Return counts in which each word counts 1 each time it occurs."""
        return Counts.of([(word, 1) for word in words])

    def __eq__(self, other):
        return isinstance(other, Counts) and self._numbers == other._numbers

    def __le__(self, other):
        if not isinstance(other, Counts):
            return NotImplemented
        return all([mine <= theirs for _, mine, theirs in _beside(self, other)])

    def __lt__(self, other):
        if not isinstance(other, Counts):
            return NotImplemented
        return self <= other and self != other

    def __ge__(self, other):
        if not isinstance(other, Counts):
            return NotImplemented
        return other <= self

    def __gt__(self, other):
        if not isinstance(other, Counts):
            return NotImplemented
        return other < self

    def __add__(self, other):
        if not isinstance(other, Counts):
            return NotImplemented
        return _counts_of([(word, mine + theirs) for word, mine, theirs in _beside(self, other)])

    def __sub__(self, other):
        if not isinstance(other, Counts):
            return NotImplemented
        return _counts_of([(word, mine - theirs) for word, mine, theirs in _beside(self, other)])

    def __and__(self, other):
        if not isinstance(other, Counts):
            return NotImplemented
        return _counts_of([(word, min(int(mine), int(theirs))) for word, mine, theirs in _beside(self, other)])

    def __or__(self, other):
        if not isinstance(other, Counts):
            return NotImplemented
        return _counts_of([(word, max(int(mine), int(theirs))) for word, mine, theirs in _beside(self, other)])

    def __xor__(self, other):
        if not isinstance(other, Counts):
            return NotImplemented
        return abs(self - other)

    def __neg__(self):
        return _counts_of([(word, -number) for word, number in self._numbers.items()])

    def __abs__(self):
        return _counts_of([(word, abs(number)) for word, number in self._numbers.items()])

    def __mul__(self, other):
        if not is_number(other):
            return NotImplemented
        return _counts_of([(word, number * other) for word, number in self._numbers.items()])

    def __rmul__(self, other):
        if not is_number(other):
            return NotImplemented
        return self * other

    def __floordiv__(self, other):
        if not isinstance(other, Counts):
            return NotImplemented
        _check_divisor(other)
        return min([int(self._numbers.get(word, 0) // number) for word, number in other._numbers.items()])

    def __mod__(self, other):
        if not isinstance(other, Counts):
            return NotImplemented
        return self - other * (self // other)

    def __iadd__(self, other):
        if not isinstance(other, Counts):
            return NotImplemented
        self._numbers = (self + other)._numbers
        return self

    def __isub__(self, other):
        if not isinstance(other, Counts):
            return NotImplemented
        self._numbers = (self - other)._numbers
        return self

    def __iand__(self, other):
        if not isinstance(other, Counts):
            return NotImplemented
        self._numbers = (self & other)._numbers
        return self

    def __ior__(self, other):
        if not isinstance(other, Counts):
            return NotImplemented
        self._numbers = (self | other)._numbers
        return self

    def __imul__(self, other):
        if not is_number(other):
            return NotImplemented
        self._numbers = (self * other)._numbers
        return self

    def __getitem__(self, at):
        _check_word(at)
        return self._numbers.get(at, 0)

    def __setitem__(self, at, worth):
        _check_word(at)
        _check_number(worth)
        if worth != 0:
            self._numbers[at] = worth
        elif at in self._numbers:
            del self._numbers[at]

    def __contains__(self, x):
        return isinstance(x, str) and x in self._numbers

    # Python would otherwise iterate by calling __getitem__ with 0, 1, 2 ..
    def __iter__(self):
        raise TypeError("counts cannot be iterated over")

    def __len__(self):
        return len(self._numbers)

    def __bool__(self):
        return bool(self._numbers)

    @property
    def total(self):
        """The sum of all integers."""
        return sum(self._numbers.values())

    def pairs(self):
        """Return a list of (word, integer) without zeros, ascending."""
        return [(word, self._numbers[word]) for word in self.words()]

    def words(self):
        """Return a list of the words whose integers are not 0, ascending."""
        return sorted(self._numbers, key=str)

    def only(self, *words):
        """Return new counts with these words alone."""
        return _counts_of([(word, number) for word, number in self._numbers.items() if word in words])

    def copy(self):
        """Return new equal counts."""
        return _counts_of(list(self._numbers.items()))

    def columns(self, *words):
        """Return a line for each of these words, or for all; the integers stand below each other."""
        shown = words if words else tuple(self.words())
        return "\n".join([f"{word:<8}{self._numbers.get(word, 0):>8,}" for word in shown])

    def __repr__(self):
        inner = ", ".join([f"{word}={number}" for word, number in self.pairs()])
        return f"Counts({inner})"


def _check_word(word):
    if not is_word(word):
        raise BadWord(word)


def _check_number(number):
    if not is_short(number):
        raise BadNumber(number)


def _is_pair(value):
    """Tell whether any value is a tuple of a word and an integer of at most thirty digits."""
    return isinstance(value, tuple) and len(value) == 2 and is_word(value[0]) and is_short(value[1])


def _counts_of(pairs):
    """Return new counts; results may be longer than the integers that Counts may be passed."""
    made = Counts()
    made._numbers = {word: number for word, number in pairs if number != 0}
    return made


def _beside(one, other):
    """Return (word, integer of one, integer of other) for all words that one of both has."""
    words = list(one._numbers) + [word for word in other._numbers if word not in one._numbers]
    return [(word, one._numbers.get(word, 0), other._numbers.get(word, 0)) for word in words]


def _check_divisor(counts):
    """Raise NoDivisor unless there is an integer that is not 0, and none is below 0."""
    if not counts:
        raise NoDivisor(None)
    for word, number in counts.pairs():
        if number < 0:
            raise NoDivisor(word)
