"""Unfolding ways and traces into histories."""

from countsheld.errors import BadWay, TooMany
from countsheld.looker import first_wrong
from countsheld.realizing import Cast, Stage, event_to, realize

_MOST = 100


def size_of(lines):
    """Return the size of the last line of a way or a trace."""
    sizes = []
    for _, role, source, partner in lines:
        size = 1 if role == "begin" else sizes[source] + 1
        sizes.append(size if partner is None else size + sizes[partner])
    return sizes[-1]


def chain_of(lines):
    """Return a list of the indexes of the chain of the last line, ascending."""
    return _chain_to(lines, len(lines) - 1)


def length_of(lines):
    """Return the number of events at one owner in the chain of the last line."""
    return len(chain_of(lines)) - 1


def unfold(desk, lines):
    """Return a history in which an owner goes through the chain of the last line, and the owner's number."""
    wrong = first_wrong(desk, lines)
    if wrong is not None:
        raise BadWay(wrong)
    if size_of(lines) > _MOST:
        raise TooMany("events")
    stage = Stage(desk)
    owner = _act_out(stage, lines, len(lines) - 1)
    return tuple(stage.events), owner


def _chain_to(lines, last):
    chain = [last]
    while lines[chain[-1]][1] != "begin":
        chain.append(lines[chain[-1]][2])
    return chain[::-1]


def _act_out(stage, lines, last):
    """Let a new owner go through the chain of the line, each partner being a new owner, too; return its number."""
    chain = _chain_to(lines, last)
    owner = stage.let_found(lines[chain[0]][2])
    for at in chain[1:]:
        standing, role, source, partner = lines[at]
        mine = Cast(stage, owner, lines[source][0])
        theirs = Cast(stage, None, None)
        if partner is not None:
            # The size of the partner is smaller than that of this line, so this does not go deep.
            theirs = Cast(stage, _act_out(stage, lines, partner), lines[partner][0])
        home, touched = (theirs, mine) if role == "other" else (mine, theirs)
        realize(stage, event_to(stage.used_desk, role, home, touched, standing), home, touched)
    return owner
