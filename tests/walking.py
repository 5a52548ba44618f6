"""Finds loops that change what they walk, by its own name or by another name, field or item that means the same."""

import ast

CHANGING = "append clear extend insert pop remove reverse setdefault sort update add discard".split()
LOOKING = ("enumerate", "zip", "reversed", "iter", "map")
VIEWS = ("items", "keys", "values")
COMPREHENSIONS = (ast.ListComp, ast.SetComp, ast.DictComp, ast.GeneratorExp)


def changed_walks(text):
    """Return a list of (function, row of the loop, what is changed in it) of all functions of a file."""
    found = []
    for function in ast.walk(ast.parse(text)):
        if isinstance(function, ast.FunctionDef):
            same = _Same(function)
            for row, walked, body in _loops_in(function):
                for change in _changes_in(body):
                    if any(same.root_of(one) == same.root_of(change) for one in walked):
                        found.append((function.name, row, change))
    return found


class _Same:
    """Which places of a function an assignment lets mean one object, in whatever order it is executed."""

    def __init__(self, function):
        self._above = {}
        for node in ast.walk(function):
            if isinstance(node, ast.Assign):
                for target in node.targets:
                    self._join_all(target, node.value)
                    self._join_all(target, node.targets[0])
            elif isinstance(node, ast.NamedExpr):
                self._join_all(node.target, node.value)
            elif isinstance(node, (ast.For, ast.comprehension)):
                for place in _places(node.target):
                    for walked in _walked(node.iter):
                        self._join(place, walked + "[]")

    def root_of(self, place):
        while place in self._above:
            place = self._above[place]
        return place

    def _join(self, one, other):
        if self.root_of(one) != self.root_of(other):
            self._above[self.root_of(one)] = self.root_of(other)

    def _join_all(self, target, value):
        if isinstance(target, ast.Tuple):
            is_beside = isinstance(value, ast.Tuple) and len(value.elts) == len(target.elts)
            for at, one in enumerate(target.elts):
                if is_beside:
                    self._join_all(one, value.elts[at])
            return
        for place in _places(target):
            for other in _places(value):
                self._join(place, other)


def _places(node):
    """Return the names, fields and items that the value of an expression may be."""
    if isinstance(node, ast.Name):
        return [node.id]
    if isinstance(node, ast.Attribute):
        return ["." + node.attr]
    if isinstance(node, ast.Subscript):
        return [] if isinstance(node.slice, ast.Slice) else [place + "[]" for place in _places(node.value)]
    if isinstance(node, ast.IfExp):
        return _places(node.body) + _places(node.orelse)
    if isinstance(node, ast.BoolOp):
        return [place for one in node.values for place in _places(one)]
    if isinstance(node, ast.NamedExpr):
        return _places(node.target) + _places(node.value)
    return []


def _walked(node):
    """Return the places that a loop over the expression walks; what is made on the spot is none."""
    if not isinstance(node, ast.Call):
        return _places(node)
    if isinstance(node.func, ast.Name) and node.func.id in LOOKING:
        return [place for one in node.args for place in _walked(one)]
    if isinstance(node.func, ast.Attribute) and node.func.attr in VIEWS:
        return _walked(node.func.value)
    return []


def _loops_in(function):
    """Yield (row, the places that are walked, what is executed in the loop)."""
    for node in ast.walk(function):
        if isinstance(node, ast.For):
            yield node.lineno, _walked(node.iter), node.body
        elif isinstance(node, COMPREHENSIONS):
            body = [node.key, node.value] if isinstance(node, ast.DictComp) else [node.elt]
            for one in node.generators:
                yield node.lineno, _walked(one.iter), body + [test for each in node.generators for test in each.ifs]


def _changes_in(body):
    """Return the places of the lists, dicts and sets that the statements and expressions change."""
    found = []
    for part in body:
        for node in ast.walk(part):
            if isinstance(node, ast.Subscript) and isinstance(node.ctx, (ast.Store, ast.Del)):
                found.extend(_places(node.value))
            elif isinstance(node, ast.AugAssign):
                found.extend(_places(node.target))
            elif isinstance(node, ast.Call) and isinstance(node.func, ast.Attribute) and node.func.attr in CHANGING:
                found.extend(_places(node.func.value))
    return found
