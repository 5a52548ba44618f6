"""Ways through what comes about one from another: standings of owners, or their numbers.

A crowd has the methods `admit`, which lets one in and returns pairs (index of the one before, step)
of the new steps from all that are in, and `lets_in`, which tells whether one that a step leads to
may come in. A step is a tuple (what becomes, role, index of the partner or None). A line is a tuple
(what, role, source, partner), as in a way.
"""

from countsheld.errors import TooMany


class Web:
    """All that come about, smallest sizes first, each with its line and the steps from it."""

    def __init__(self):
        self.lines = []
        self.sizes = []
        self.steps_from = []
        self.place_by_thing = {}


class Route:
    """How one comes about by a shortest chain: the length and size of it, and its last line."""

    def __init__(self, length, size, line):
        self.length = length
        self.size = size
        self.line = line


def grown(crowd, first, most):
    """Return the web of all that come about from the first ones; raise TooMany beyond so many."""
    web = Web()
    pending = {}
    for at, thing in enumerate(first):
        pending.setdefault(thing, (1, (thing, "begin", at, None)))
    while pending:
        if len(web.lines) + len(pending) > most:
            raise TooMany("standings")
        thing = _smallest(pending)
        size, line = pending.pop(thing)
        web.place_by_thing[thing] = len(web.lines)
        web.lines.append(line)
        web.sizes.append(size)
        web.steps_from.append([])
        for source, step in crowd.admit(thing):
            web.steps_from[source].append(step)
            if crowd.lets_in(step[0]) and step[0] not in web.place_by_thing:
                _offer(web, pending, source, step)
    return web


def routes_in(web):
    """Return a list of the routes of least length, and of these of least size, to all in the web."""
    routes = {}
    layer = {}
    for at, line in enumerate(web.lines):
        if line[1] == "begin":
            layer[at] = Route(0, 1, line)
    while layer:
        routes.update(layer)
        upcoming = {}
        # Behind the loop `layer` names the dict that the loop fills, so a copy is walked.
        for source in list(layer):
            for step in web.steps_from[source]:
                at = web.place_by_thing.get(step[0])
                if at is not None and at not in routes:
                    route = route_behind(web, routes[source], source, step)
                    if at not in upcoming or route.size < upcoming[at].size:
                        upcoming[at] = route
        layer = upcoming
    return [routes[at] for at in range(len(web.lines))]


def route_behind(web, route, source, step):
    """Return the route that goes on from the source, whose own route is given, by the step."""
    thing, role, partner = step
    size = route.size + 1 + (0 if partner is None else web.sizes[partner])
    return Route(route.length + 1, size, (thing, role, source, partner))


def chain_behind(routes, last):
    """Return the list of lines of the route, from a line `begin` on; their indexes are those of the web."""
    chain = [last.line]
    while chain[-1][1] != "begin":
        chain.append(routes[chain[-1][2]].line)
    return chain[::-1]


def assembled(web, chain, wanted):
    """Return the lines of a way that ends with this chain, and a dict of the places of partners in it.

    wanted is a list of indexes of the web that get a place, too.
    """
    needed = {at: True for at in wanted}
    for _, _, _, partner in chain:
        if partner is not None:
            needed[partner] = True
    # Sources and partners stand ahead of what comes of them.
    for at in reversed(range(len(web.lines))):
        _, role, source, partner = web.lines[at]
        if at in needed and role != "begin":
            needed[source] = True
            if partner is not None:
                needed[partner] = True
    lines = []
    placed = {}
    for at, (thing, role, source, partner) in enumerate(web.lines):
        if at in needed:
            placed[at] = len(lines)
            lines.append((thing, role, source if role == "begin" else placed[source], placed.get(partner)))
    for thing, role, source, partner in chain:
        lines.append((thing, role, source if role == "begin" else len(lines) - 1, placed.get(partner)))
    return lines, placed


def _smallest(pending):
    """Return the first of those with the smallest size."""
    least = min([int(size) for size, _ in pending.values()])
    return [thing for thing, (size, _) in pending.items() if size == least][0]


def _offer(web, pending, source, step):
    """Let what the step leads to wait for its turn, unless it already waits with a smaller size."""
    thing, role, partner = step
    size = web.sizes[source] + 1 + (0 if partner is None else web.sizes[partner])
    if thing not in pending or size < pending[thing][0]:
        pending[thing] = (size, (thing, role, source, partner))
