"""What is bound and read, where, and of which kinds, in the bodies of a stored program."""

from kindscarried.alive import names_read
from kindscarried.bodies import inner_bodies
from kindscarried.kinds import opened
from kindscarried.stored import StoredLooker


class KindsMet(StoredLooker):
    """Looks at a stored program; met is the list of the kinds of all that is bound, but for what blocks are handed.

    They come as the looker does: row by row, at a match those that its bodies bind.
    """

    def __init__(self, program):
        StoredLooker.__init__(self, program)
        self.met = []

    def look_at_row(self, row, place):
        kind = self.told_of("row", row, place)
        self.names.append(kind)
        self.met.append(kind)

    def look_at_end(self, end, place):
        bound = self.told_of("end", end, place)
        for kinds in bound:
            self.met.extend(list(kinds))
        return bound


class Part:
    """A body: its moments are those from first on, those of the bodies in it, too, that is, up to behind.

    inner are the numbers of the parts that the bodies in its end are; bound is the
    number of the thing that it binds at its beginning, None without one; things are
    the numbers of those that its rows bind.
    """

    def __init__(self, body, first, bound):
        self.body = body
        self.first = first
        self.behind = first
        self.inner = []
        self.bound = bound
        self.things = []

    def end_moment(self):
        """The moment of its end."""
        return self.first + len(self.things)


class Survey:
    """The things of a body and of all bodies in it, and when they are read.

    A thing is what a name stands for; its number tells which one it is of those bound,
    what the body is handed ahead of all others. A moment is a row or an end, the
    bodies in an end standing behind it, one behind another. parts are the bodies as
    they come; kinds has the kind of each thing, moments when it is read, ascending, and
    reads the things that are read at each moment.
    """

    def __init__(self, body, handed, met):
        """handed are the kinds of what the body is handed; met those of what is bound, all or more of them."""
        self.kinds = list(handed)
        self.moments = [[] for _ in handed]
        self.reads = []
        self.parts = []
        pending = [(body, list(range(len(self.kinds))), None, None)]
        while pending:
            body, scope, around, bound = pending.pop()
            number = len(self.parts)
            if around is not None:
                self.parts[around].inner.append(number)
            part = Part(body, len(self.reads), bound)
            self.parts.append(part)
            self.go_through(part, scope, met, len(handed))
            inner = self.inner_scopes(body[1], scope, met, len(handed))
            pending.extend([(other, own, number, thing) for other, own, thing in reversed(inner)])
        self.tell_ends()

    def bind(self, met, handed):
        self.kinds.append(met[len(self.kinds) - handed])
        self.moments.append([])
        return len(self.kinds) - 1

    def go_through(self, part, scope, met, handed):
        rows, end = part.body
        for row in rows:
            self.read("row", row, scope)
            thing = self.bind(met, handed)
            part.things.append(thing)
            scope.append(thing)
        self.read("end", end, scope)

    def read(self, sort, node, scope):
        things = list({scope[name]: True for name in names_read(sort, node)})
        for thing in things:
            self.moments[thing].append(len(self.reads))
        self.reads.append(things)

    def inner_scopes(self, end, scope, met, handed):
        """The list of (body, what its names in scope stand for, what it binds) of the bodies in an end."""
        rows = []
        for _, body in inner_bodies(end):
            bound = self.bind(met, handed) if end[0] == "match" else None
            own = list(scope) if bound is None else scope + [bound]
            rows.append((body, own, bound))
        return rows

    def tell_ends(self):
        """Tells each part what is behind its last moment."""
        for part in reversed(self.parts):
            inside = [self.parts[number].behind for number in part.inner]
            part.behind = max([part.end_moment() + 1] + inside)

    def next_read(self, thing, moment, part):
        """The first moment, from this one on, at which a part reads a thing; None if it does not."""
        moments = self.moments[thing]
        low = 0
        high = len(moments)
        while low < high:
            middle = (low + high) // 2
            if moments[middle] < moment:
                low = middle + 1
            else:
                high = middle
        return moments[low] if low < len(moments) and moments[low] < part.behind else None

    def is_alive(self, thing, moment, part):
        return self.next_read(thing, moment, part) is not None


def surveys(program):
    """The list of the surveys of the blocks of a stored program, one by one, then of its own body.

    IllKinded of what is no right program.
    """
    looker = KindsMet(program)
    looker.look_at_all()
    told = []
    met = looker.met
    for number, (many, _, body) in enumerate(program[0]):
        own = tuple([("free", index) for index in range(many)])
        handed = opened(looker.heads[number], own)
        survey = Survey(body, handed, met)
        told.append(survey)
        met = met[len(survey.kinds) - len(handed):]
    told.append(Survey(program[1], (), met))
    return told
