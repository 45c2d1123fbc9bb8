"""Which names of stored programs are still read, and how many things are held at once."""

from kindscarried.bodies import inner_bodies, inner_things
from kindscarried.errors import IllKinded
from kindscarried.stored import stored_judged, stored_slots


def alive_in(body, many):
    """The list of the ascending lists of the names alive ahead of each row, then of the end.

    many is how many names are in scope ahead of the body.
    """
    rows, end = body
    widths = Widths()
    starts = [widths.alive_at_start(inner, inside) for inner, inside in _inner_scopes(body, many)]
    alive = widths.alive_at_end(end, many + len(rows), starts)
    told = [sorted(alive)]
    for index in reversed(range(len(rows))):
        _step_back(alive, rows[index], many + index)
        told.append(sorted(alive))
    told.reverse()
    return told


def width_of(program):
    """The greatest number of things that a stored program holds at once."""
    place = stored_judged(program)
    if place is not None:
        raise IllKinded(place)
    return max(block_widths(program))


def block_widths(program):
    """The list of the widths of the blocks of a right stored program, one by one, then of its own body."""
    bodies = [(len(kinds), body) for _, kinds, body in program[0]]
    return [_width_of_body(body, many) for many, body in bodies + [(0, program[1])]]


def _width_of_body(body, many):
    """The greatest number of things held at once, if a body is handed so many."""
    widths = Widths()
    widths.meet(many)
    widths.alive_at_start(body, many)
    return widths.greatest


def _inner_scopes(body, many):
    """The list of (body, how many names are in scope ahead of it) of the bodies in the end of a body."""
    rows, end = body
    behind = many + len(rows)
    inside = behind + 1 if end[0] == "match" else behind
    return [(inner, inside) for _, inner in inner_bodies(end)]


def _step_back(alive, row, name):
    """Goes from behind a row, which binds a name, to ahead of it."""
    alive.pop(name, None)
    for read in names_read("row", row):
        alive[read] = True


def names_read(sort, node):
    """The list of the names that a row or end reads, at any depth of its things."""
    names = []
    pending = [(sort, node)]
    while pending:
        sort, node = pending.pop()
        for _, thing in inner_things(stored_slots(sort, node[0]), node):
            if thing[0] == "name":
                names.append(thing[1])
            else:
                pending.append(("thing", thing))
    return names


class Widths:
    """Goes through bodies from behind; greatest is the greatest number that it met."""

    def __init__(self):
        self.greatest = 0

    def meet(self, number):
        self.greatest = max(self.greatest, number)

    def alive_at_start(self, body, many):
        """The dict of the names alive at the beginning of a body, ahead of which so many are in scope."""
        bodies = []
        pending = [(body, many)]
        while pending:
            part, names = pending.pop()
            bodies.append((part, names))
            pending.extend(_inner_scopes(part, names))
        done = []
        for (rows, end), names in reversed(bodies):
            # The bodies in this end came ahead.
            starts = [done.pop() for _ in inner_bodies(end)]
            alive = self.alive_at_end(end, names + len(rows), starts)
            for index in reversed(range(len(rows))):
                alive[names + index] = True
                self.meet(len(alive))
                _step_back(alive, rows[index], names + index)
            done.append(alive)
        return done[0]

    def alive_at_end(self, end, names, starts):
        """The dict of the names alive ahead of an end, up to which so many are in scope.

        starts are the dicts of what is alive at the beginning of the bodies in it.
        """
        alive = {}
        bound = 1 if end[0] == "match" else 0
        for start in starts:
            # A match binds the next name.
            start.pop(names, None)
            self.meet(len(start) + bound)
            alive.update(start)
        for name in names_read("end", end):
            alive[name] = True
        if end[0] == "jump":
            self.meet(len(end[2]))
        return alive
