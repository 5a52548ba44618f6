"""The errors of the package.

What an error is made with is set on it, under the names of its parameters.
"""


class CountsheldError(ValueError):
    """What is passed cannot be what it is meant to be."""


class BadWord(CountsheldError):
    """The value is no word, or not one of those that are meant."""

    def __init__(self, word):
        self.word = word


class BadNumber(CountsheldError):
    """The value is no integer of at most thirty digits."""

    def __init__(self, number):
        self.number = number


class BadCounts(CountsheldError):
    """The entry at this index is no pair of a word and an integer; -1: there are no entries."""

    def __init__(self, at):
        self.at = at


class BadRule(CountsheldError):
    """A rule cannot be made: its number, its kinds or its text."""

    def __init__(self, what):
        self.what = what


class BadRules(CountsheldError):
    """A set of rules cannot be made: its rules, loose kinds, ruled kinds or counts."""

    def __init__(self, what):
        self.what = what


class BadDoor(CountsheldError):
    """A door cannot be made: its line at this index; -1: its name."""

    def __init__(self, at):
        self.at = at


class Unfit(CountsheldError):
    """The line of the door does not fit the rules."""

    def __init__(self, door, line):
        self.door = door
        self.line = line


class BadDesk(CountsheldError):
    """A desk cannot be made or compared: this part of it."""

    def __init__(self, what):
        self.what = what


class BadText(CountsheldError):
    """The text of a desk cannot be read at this line; -1: it is no text."""

    def __init__(self, at):
        self.at = at


class NotLoose(CountsheldError):
    """The kind is not loose."""

    def __init__(self, kind):
        self.kind = kind


class Named(CountsheldError):
    """A call under way names the row."""

    def __init__(self, row):
        self.row = row


class Full(CountsheldError):
    """As many calls as the limit says are under way at the owner."""

    def __init__(self, owner):
        self.owner = owner


class NoPick(CountsheldError):
    """The pick is not one of the rows to choose from."""

    def __init__(self, pick):
        self.pick = pick


class Broken(CountsheldError):
    """The rules with these indexes would not hold."""

    def __init__(self, rules):
        self.rules = rules


class BadHistory(CountsheldError):
    """The event at this index is none, or not possible; -1: there is no history."""

    def __init__(self, at):
        self.at = at


class BadStanding(CountsheldError):
    """The value is no standing of the desk."""

    def __init__(self, standing):
        self.standing = standing


class BadWay(CountsheldError):
    """The line at this index is not one of a way; -1: there are no lines."""

    def __init__(self, at):
        self.at = at


class NoWay(CountsheldError):
    """The standing is not possible."""

    def __init__(self, standing):
        self.standing = standing


class NotKept(CountsheldError):
    """The desk is not kept."""


class TooMany(CountsheldError):
    """There are too many of these."""

    def __init__(self, what):
        self.what = what


class NoDoor(LookupError):
    """There is no door with this name."""

    def __init__(self, name):
        self.name = name


class NoBegin(LookupError):
    """There is no begin with this index."""

    def __init__(self, index):
        self.index = index


class NoOwner(LookupError):
    """There is no such owner."""

    def __init__(self, owner):
        self.owner = owner


class NoRow(LookupError):
    """There is no such row."""

    def __init__(self, row):
        self.row = row


class NoRule(LookupError):
    """There is no rule with this index."""

    def __init__(self, rule):
        self.rule = rule


class NoDivisor(ZeroDivisionError):
    """The counts do not divide: the integer of this word is below 0; None: all are 0."""

    def __init__(self, word):
        self.word = word


class Waits(RuntimeError):
    """The line has to wait while the owner is held."""

    def __init__(self, owner):
        self.owner = owner


class Refused(RuntimeError):
    """The line of the door is refused."""

    def __init__(self, door, line, why):
        self.door = door
        self.line = line
        self.why = why


class Over(RuntimeError):
    """The call is not under way."""

    def __init__(self, number):
        self.number = number


class Busy(RuntimeError):
    """The owner has a call under way."""

    def __init__(self, owner):
        self.owner = owner
