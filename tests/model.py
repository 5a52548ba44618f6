"""A second, plain reading of points 9 to 20, against which books are compared.

It reads the lines of doors anew for each event, and keeps its owners as lists of pairs.
"""

import copy
import re

SIGNS = {"<": "__lt__", "<=": "__le__", "=": "__eq__", "!=": "__ne__", ">=": "__ge__", ">": "__gt__"}


class Wrong(Exception):
    """An event that is not possible: the name of the error and what it is made with."""


def whole(value):
    return isinstance(value, int) and not isinstance(value, bool)


class Model:
    """rules: tuples (least, most or None, kinds); doors: lists of lines by names; begins: dicts."""

    def __init__(self, rules, loose, doors, begins, limit, store):
        self.rules, self.loose, self.doors, self.begins = rules, loose, doors, begins
        self.limit, self.store = limit, store
        self.owners, self.calls, self.added = {}, [], 0

    def state(self):
        """What can be seen of owners and calls."""
        owners = {number: (list(one["rows"]), one["next"]) for number, one in self.owners.items()}
        return owners, [(call["door"], call["home"], call["row"], call["at"], call["open"]) for call in self.calls]

    def happen(self, event):
        """Do one event; return (owners that it concerns, (line, why) or None)."""
        before = copy.deepcopy((self.owners, self.calls, self.added))
        try:
            return getattr(self, "on_" + event[0])(*event[1:])
        except Wrong:
            self.owners, self.calls, self.added = before
            raise

    def living(self, number):
        if not whole(number) or number not in self.owners:
            raise Wrong("NoOwner", number)
        return self.owners[number]

    def on_owner(self, begin):
        if not whole(begin) or not 0 <= begin < len(self.begins):
            raise Wrong("NoBegin", begin)
        kinds = [kind for kind in sorted(self.begins[begin]) for _ in range(self.begins[begin][kind])]
        self.owners[self.added] = {"rows": list(enumerate(kinds)), "next": len(kinds)}
        self.added += 1
        return [self.added - 1], None

    def on_come(self, owner, kind):
        home = self.living(owner)
        if kind not in self.loose:
            raise Wrong("NotLoose", kind)
        self.enter(home, kind)
        return [owner], None

    def on_leave(self, owner, row):
        home = self.living(owner)
        kind = self.kind(home, row)
        if kind is None:
            raise Wrong("NoRow", row)
        if kind not in self.loose:
            raise Wrong("NotLoose", kind)
        if any(call["row"] == row for call in self.open_calls(owner)):
            raise Wrong("Named", row)
        home["rows"].remove((row, kind))
        return [owner], None

    def on_call(self, door, owner, row, other, picks):
        if not isinstance(door, str) or door not in self.doors:
            raise Wrong("NoDoor", door)
        home = self.living(owner)
        if len(self.open_calls(owner)) >= self.limit:
            raise Wrong("Full", owner)
        names = any(re.search(r"\b(row|give)\b", line) for line in self.doors[door])
        if (names and self.kind(home, row) is None) or (not names and row is not None):
            raise Wrong("NoRow", row)
        call = {"door": door, "home": owner, "row": row, "at": 0, "open": True}
        self.calls.append(call)
        return self.step(call, other, picks)

    def on_go(self, number, other, picks):
        if not whole(number) or not 0 <= number < len(self.calls) or not self.calls[number]["open"]:
            raise Wrong("Over", number)
        return self.step(self.calls[number], other, picks)

    def open_calls(self, owner):
        return [call for call in self.calls if call["home"] == owner and call["open"]]

    def holds(self, call):
        return "hold" in self.doors[call["door"]][:call["at"]]

    def step(self, call, other, picks):
        line = self.doors[call["door"]][call["at"]]
        touches = re.search(r"\b(give|take|join)\b", line) is not None
        if touches and (not whole(other) or other not in self.owners or other == call["home"]):
            raise Wrong("NoOwner", other)
        if not touches and other is not None:
            raise Wrong("NoOwner", other)
        if line == "hold" and any(self.holds(one) for one in self.open_calls(call["home"])):
            raise Wrong("Waits", call["home"])
        if touches and self.holds(call) and any(self.holds(one) for one in self.open_calls(other)):
            raise Wrong("Waits", other)
        concerned = [call["home"]] + ([other] if touches else [])
        kept = copy.deepcopy(self.owners)
        why = self.run(line, call, other, list(picks))
        if why is not None:
            self.owners = kept
            call["open"] = False
            return concerned, (call["at"], why)
        call["at"] += 1
        if call["at"] == len(self.doors[call["door"]]):
            call["open"] = False
        if touches and other not in self.owners:
            for one in self.open_calls(other):
                one["open"] = False
        return concerned, None

    def run(self, line, call, other, picks):
        word, _, rest = line.partition(" ")
        if word == "hold":
            return None
        parts, _, tests = (rest if word == "do" else " if " + rest).partition(" if ")
        for at, test in enumerate(tests.split(" and ") if tests else []):
            if not self.passes(test.split(), call, other):
                return "test", at
        if word == "look":
            return None
        for at, part in enumerate(parts.split(" then ")):
            if not self.part(part.split(), call, other, picks):
                return "part", at
        for number in (call["home"], other):
            for at in sorted(self.store):
                if number in self.owners and not self.rule_holds(at, self.owners[number]):
                    return "rule", at
        return None

    def rule_holds(self, at, owner):
        least, most, kinds = self.rules[at]
        total = sum(kind in kinds for _, kind in owner["rows"])
        return least <= total and (most is None or total <= most)

    def passes(self, tokens, call, other):
        home = self.owners[call["home"]]
        if tokens[0] == "row":
            return self.kind(home, call["row"]) in tokens[1::2]
        owner = home
        if tokens[0] == "other":
            owner, tokens = self.owners[other], tokens[1:]
        total = sum(kind in tokens[:-2:2] for _, kind in owner["rows"])
        return getattr(total, SIGNS[tokens[-2]])(int(tokens[-1]))

    def part(self, tokens, call, other, picks):
        home, named = self.owners[call["home"]], call["row"]
        word, kinds, after = tokens[0], tokens[1:-2:2], tokens[-1]
        if word == "new":
            self.enter(home, after)
        elif word == "join":
            for _, kind in self.owners.pop(other)["rows"]:
                self.enter(home, kind)
        elif word == "all":
            for row, kind in list(home["rows"]):
                if kind in kinds and row != named:
                    self.turn(home, row, after)
        elif word in ("row", "give"):
            if self.kind(home, named) not in kinds:
                return False
            self.turn(home, named, after if word == "row" else "gone")
            if word == "give":
                self.enter(self.owners[other], after)
        else:
            owner = home if word == "one" else self.owners[other]
            passed = named if word == "one" else None
            choice = [row for row, kind in owner["rows"] if kind in kinds and row != passed]
            if not choice:
                return False
            row = choice[0]
            if picks:
                row = picks.pop(0)
                if not whole(row) or row not in choice:
                    raise Wrong("NoPick", row)
            self.turn(owner, row, after if word == "one" else "gone")
            if word == "take":
                self.enter(home, after)
        return True

    @staticmethod
    def kind(owner, row):
        return dict(owner["rows"]).get(row) if whole(row) else None

    @staticmethod
    def enter(owner, kind):
        owner["rows"].append((owner["next"], kind))
        owner["next"] += 1

    @staticmethod
    def turn(owner, row, after):
        rows = owner["rows"]
        at = [one for one, _ in rows].index(row)
        rows[at:at + 1] = [] if after == "gone" else [(row, after)]
