"""Standings worked out event by event in the plain model of tests/model.py, and plain searches over them."""

import copy
import itertools
import re

from model import Model, Wrong


def model_of(desk):
    """Return an empty model of the desk."""
    listed = [(rule.least, rule.most, rule.kinds) for rule in desk.rules.listed]
    doors = {door.name: list(door.lines) for door in desk}
    begins = [dict(begin.pairs()) for begin in desk.begins()]
    return Model(listed, list(desk.rules.loose), doors, begins, desk.limit, list(desk.store))


def put_owner(model, desk, standing, extra):
    """Put an owner with the standing into the model, with so many more rows of loose kinds; return its number."""
    numbers, groups = standing
    kinds = []
    for kind, many in zip(desk.rules.kinds, numbers):
        kinds += [kind] * (many - sum(label == kind for label, _ in groups))
    for kind in desk.rules.loose:
        kinds += [kind] * extra.get(kind, 0)
    number = model.added
    model.added += 1
    for label, calls in groups:
        row = None if label == "" else 90 + len(kinds)
        if label not in ("", "gone"):
            row = len(kinds)
            kinds.append(label)
        for door, at in calls:
            model.calls.append({"door": door, "home": number, "row": row, "at": at, "open": True})
    model.owners[number] = {"rows": list(enumerate(kinds)), "next": len(kinds)}
    return number


def standing_in(model, desk, number):
    """Return the standing of an owner of the model; None if it exists no longer."""
    if number not in model.owners:
        return None
    kinds = dict(model.owners[number]["rows"])
    groups, gone, unnamed = {}, [], []
    for call in model.open_calls(number):
        pair = (call["door"], call["at"])
        if call["row"] is None:
            unnamed.append(pair)
        elif call["row"] in kinds:
            groups.setdefault(call["row"], []).append(pair)
        else:
            gone.append(pair)
    listed = [(kinds[row], tuple(sorted(calls))) for row, calls in groups.items()]
    listed += [("", tuple(sorted(unnamed)))] if unnamed else []
    listed += [("gone", tuple(sorted(gone)))] if gone else []
    ruled = [sum(kind == one for one in kinds.values()) for kind in desk.rules.kinds]
    return tuple(ruled), tuple(sorted(listed))


def extras(desk, most):
    """Return all ways of having up to so many more rows of each loose kind."""
    kinds = desk.rules.loose
    return [dict(zip(kinds, many)) for many in itertools.product(range(most + 1), repeat=len(kinds))]


def touches(line):
    return re.search(r"\b(give|take|join)\b", line) is not None


def names_row(desk, door):
    return any(re.search(r"\b(row|give)\b", line) for line in desk[door].lines)


def events_at(model, desk, home, other, only_going=False):
    """Return all events of calls of the home whose line touches the other owner, or none if that is None."""
    found = []
    rows = {row for number in (home, other) if number is not None for row, _ in model.owners[number]["rows"]}
    upcoming = model.owners[home]["next"]
    candidates = sorted(rows | set(range(upcoming, upcoming + 3)))

    def picks_for(line):
        many = len(re.findall(r"\b(one|take)\b", line))
        return list(itertools.product(candidates, repeat=many)) + [()]

    for number, call in enumerate(model.calls):
        if call["home"] == home and call["open"]:
            line = desk[call["door"]].lines[call["at"]]
            if touches(line) == (other is not None):
                found += [("go", number, other, picks) for picks in picks_for(line)]
    if only_going:
        return found
    for door in desk:
        line = door.lines[0]
        if touches(line) == (other is not None):
            named = [row for row, _ in model.owners[home]["rows"]] if names_row(desk, door.name) else [None]
            found += [("call", door.name, home, row, other, picks) for row in named for picks in picks_for(line)]
    return found


def happened(model, event):
    """Return a copy of the model behind the event, and whether it is refused; None if it is not possible."""
    made = copy.deepcopy(model)
    try:
        _, refusal = made.happen(event)
    except Wrong:
        return None
    return made, refusal


def alone(desk, standing, only_going=False):
    """Return the next standings of an owner by events that touch no other."""
    found = set()
    for extra in extras(desk, 2):
        model = model_of(desk)
        home = put_owner(model, desk, standing, extra)
        for event in events_at(model, desk, home, None, only_going):
            behind = happened(model, event)
            if behind is not None:
                found.add(standing_in(behind[0], desk, home))
    return found


def meeting(desk, home, other, only_going=False):
    """Return the next pairs of standings by events of the home that touch the other."""
    found = set()
    # A line takes one row of the touched owner at most.
    for here, there in itertools.product(extras(desk, 2), extras(desk, 1)):
        model = model_of(desk)
        one = put_owner(model, desk, home, here)
        two = put_owner(model, desk, other, there)
        for event in events_at(model, desk, one, two, only_going):
            behind = happened(model, event)
            if behind is not None:
                found.add((standing_in(behind[0], desk, one), standing_in(behind[0], desk, two)))
    return found


class Search:
    """Possible standings, least lengths and late standings of a desk, pair by pair.

    `one` and `two` give the next standings; too_many says that there are more than 120 possible ones.
    """

    def __init__(self, desk, one, two):
        self.desk, self.one, self.two = desk, one, two
        self.begins = [(desk.rules.numbers(begin), ()) for begin in desk.begins()]
        self.alone_of, self.meeting_of = {}, {}
        self.found, self.too_many = set(self.begins), False
        many = 0
        while len(self.found) > many and not self.too_many:
            many = len(self.found)
            self.found |= {behind for _, behind, within in self.steps(self.found) if within}
            self.too_many = len(self.found) > 120

    def within(self, standing):
        return standing is None or self.desk.rules.includes(standing[0])

    def nexts(self, standing):
        if standing not in self.alone_of:
            self.alone_of[standing] = set(self.one(self.desk, standing))
        return self.alone_of[standing]

    def pairs(self, home, other):
        if (home, other) not in self.meeting_of:
            self.meeting_of[home, other] = set(self.two(self.desk, home, other))
        return self.meeting_of[home, other]

    def steps(self, standings):
        """Yield (standing before, standing behind, whether the event breaks no rule) for each owner concerned."""
        listed = sorted(standings)
        for standing in listed:
            for behind in self.nexts(standing):
                yield standing, behind, self.within(behind)
        for home, other in itertools.product(listed, repeat=2):
            for here, there in self.pairs(home, other):
                within = self.within(here) and self.within(there)
                yield home, here, within
                if there is not None:
                    yield other, there, within

    def lengths(self):
        """Return the least number of events behind which an owner has each possible standing."""
        edges = {}
        for before, behind, within in self.steps(self.found):
            if within:
                edges.setdefault(before, set()).add(behind)
        found = {standing: 0 for standing in self.begins}
        layer, depth = list(found), 0
        while layer:
            layer = sorted({behind for one in layer for behind in edges.get(one, ())} - set(found))
            depth += 1
            found.update({one: depth for one in layer})
        return found

    def sized_steps(self, sizes):
        """Yield (before, behind, whether no rule is broken, how much the size grows) for each owner concerned."""
        listed = sorted(self.found)
        for standing in listed:
            for behind in self.nexts(standing):
                yield standing, behind, self.within(behind), 1
        for home, other in itertools.product(listed, repeat=2):
            for here, there in self.pairs(home, other):
                within = self.within(here) and self.within(there)
                yield home, here, within, 1 + sizes.get(other, self.huge)
                if there is not None:
                    yield other, there, within, 1 + sizes.get(home, self.huge)

    huge = 10 ** 60

    def sizes(self):
        """Return the least size of any way to each possible standing."""
        found, changed = {standing: 1 for standing in self.begins}, True
        while changed:
            changed = False
            for before, behind, within, more in list(self.sized_steps(found)):
                size = found.get(before, self.huge) + more
                if within and size < found.get(behind, self.huge):
                    found[behind], changed = size, True
        return found

    def sizes_of_shortest(self, lengths):
        """Return the least sizes of ways of the least length."""
        self.least = self.sizes()
        steps = list(self.sized_steps(self.least))
        found = {standing: 1 for standing in self.begins}
        for length in range(1, max(lengths.values()) + 1):
            for before, behind, within, more in steps:
                if within and lengths[behind] == length == lengths[before] + 1:
                    found[behind] = min(found.get(behind, self.huge), found[before] + more)
        return found

    def size_of_trace(self, lengths, sizes):
        """Return the least size of a trace of the least length."""
        broken = [(lengths[before], sizes[before] + more) for before, behind, _, more in self.sized_steps(self.least)
                  if not self.within(behind)]
        return min(broken)[1]

    def breaks(self):
        """Return the pairs (standing before, standing behind) of owners whose rule an event breaks."""
        return {(before, behind) for before, behind, _ in self.steps(self.found) if not self.within(behind)}

    def late(self, one, two):
        """Return the standings behind an event that breaks a rule and in late histories; calls only go on."""
        found = {behind for _, behind in self.breaks()}
        pending = list(found)
        while pending:
            standing = pending.pop()
            behind = set(one(self.desk, standing, only_going=True))
            for other in self.found:
                behind |= {here for here, _ in two(self.desk, standing, other, only_going=True)}
            pending += sorted(behind - found)
            found |= behind
        return found


def with_loose(model, owner, desk, extra, named):
    """Let the rows of loose kinds that are not named leave, and so many others come."""
    rows = model.owners[owner]["rows"]
    rows[:] = [(row, kind) for row, kind in rows if kind not in desk.rules.loose or row in named]
    for kind in desk.rules.loose:
        for _ in range(extra.get(kind, 0)):
            model.enter(model.owners[owner], kind)


def whole_calls(desk, door, home, others, row_kind):
    """Yield (let, model, home, other, row) behind whole calls of the door at an owner at rest.

    home is a standing at rest. Ahead of each line the loose rows of both are anew; the touched
    owner has one of the standings others when it is touched; None stands for no other owner.
    """
    start = model_of(desk)
    one = put_owner(start, desk, home, {})
    pending = []
    if row_kind is None:
        pending.append((start, None, None))
    elif row_kind in desk.rules.loose:
        start.enter(start.owners[one], row_kind)
        pending.append((start, len(start.owners[one]["rows"]) - 1, None))
    else:
        # Rows of one kind do not differ.
        rows = [row for row, kind in start.owners[one]["rows"] if kind == row_kind]
        pending += [(start, row, None) for row in rows[:1]]
    for at, line in enumerate(desk[door].lines):
        behind, seen = [], set()
        for model, row, two in pending:
            for made, refused, touched in _line_behind(desk, door, model, one, row, two, others, at):
                told = touched if touched is not None else two
                shown = (refused, standing_in(made, desk, one), None if told is None else standing_in(made, desk, told),
                         told, dict(made.owners[one]["rows"]).get(row))
                if shown in seen:
                    continue
                seen.add(shown)
                if refused:
                    yield False, made, one, told, row
                else:
                    behind.append((made, row, told))
        pending = behind
    for model, row, two in pending:
        yield True, model, one, two, row


def _line_behind(desk, door, model, one, row, two, others, at):
    """Yield (model, whether it is refused, the touched owner) behind the next line of the one call."""
    is_touching = touches(desk[door].lines[at])
    for here, there in itertools.product(extras(desk, 2), extras(desk, 1) if is_touching else [{}]):
        for standing in others if is_touching else [None]:
            staged = copy.deepcopy(model)
            with_loose(staged, one, desk, here, [row])
            told = None
            if is_touching:
                told = put_owner(staged, desk, standing, there)
            for event in events_at(staged, desk, one, told):
                if (at == 0 and event[:2] == ("call", door) and event[3] == row) or (at > 0 and event[0] == "go"):
                    if at > 0 and staged.calls[event[1]]["home"] != one:
                        continue
                    found = happened(staged, event)
                    if found is not None:
                        yield found[0], found[1] is not None, told
