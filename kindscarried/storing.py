"""From closed programs to stored ones."""

from kindscarried.bodies import inner_bodies, inner_things, remade_body, with_things
from kindscarried.closed import ClosedLooker, closed_slots
from kindscarried.kinds import as_it_is, remade, with_inner


def stored_kind_of(kind):
    """The kind of the stored level of a closed kind: a row is a room all of whose places are set."""
    return remade(kind, as_it_is, _stored_node)


def _stored_node(kind, inner):
    if kind[0] == "row":
        return ("room", tuple([(part, True) for part in inner]))
    return with_inner(kind, inner)


def _stored_kinds(kinds):
    return tuple([stored_kind_of(kind) for kind in kinds])


def stored_of(program):
    """The stored program of a closed one."""
    looker = ClosedLooker(program)
    looker.look_at_all()
    storer = Storer(looker.kinds_told)
    blocks = []
    for number, (many, kinds, body) in enumerate(program[0]):
        blocks.append((many, _stored_kinds(kinds), storer.stored_body(body, (0, number, 2), len(kinds))))
    return (tuple(blocks), storer.stored_body(program[1], (1,), 0))


class Storer:
    """Makes the bodies of one closed program.

    kinds_told leads from the place of each thing that is a row to the kinds of what is in
    it. numbers leads from each name in scope to the number of its name here; names is
    how many are in scope here.
    """

    def __init__(self, told):
        self.kinds_told = told
        self.numbers = []
        self.names = 0
        self.rows = []

    def stored_body(self, body, place, many):
        """What the body at a place becomes, ahead of which so many names are in scope."""
        self.numbers = list(range(many))
        return remade_body(self, body, (place, many, many, 0))

    def rows_and_end(self, body, scope):
        """scope is (place of the body, how many names there are in scope, how many here, how many it binds)."""
        place, many, self.names, bound = scope
        del self.numbers[many:]
        for _ in range(bound):
            self.bind()
        self.rows = []
        for at, row in enumerate(body[0]):
            new = self.stored("row", row, place + (0, at))
            self.rows.append(new)
            self.bind()
        end = self.stored("end", body[1], place + (1,))
        bound = 1 if end[0] == "match" else 0
        scopes = []
        for path, _ in inner_bodies(end):
            scopes.append((place + (1,) + path, len(self.numbers), self.names, bound))
        return (tuple(self.rows), end, scopes)

    def bind(self):
        """The next name there is the next one here."""
        self.numbers.append(self.names)
        self.names = self.names + 1

    def stored(self, sort, node, place):
        """What a row, end or thing at a place becomes; the rows that make its things are added."""
        done = []
        pending = [(sort, node, place, None)]
        while pending:
            sort, node, place, many = pending.pop()
            if many is None:
                things = inner_things(closed_slots(sort, node[0]), node)
                pending.append((sort, node, place, len(things)))
                pending.extend([("thing", thing, place + path, None) for path, thing in reversed(things)])
                continue
            start = len(done) - many
            things = done[start:]
            del done[start:]
            done.append(self.made_of(sort, node, place, things))
        return done[0]

    def made_of(self, sort, node, place, things):
        """What a row, end or thing becomes, of what becomes of the things in it."""
        word = node[0]
        if word == "name":
            return ("name", self.numbers[node[1]])
        if word == "row":
            return self.room(_stored_kinds(self.kinds_told[place]), things)
        if word == "tag":
            return self.added(("tagged", node[1], stored_kind_of(node[2]), things[0]))
        if word == "at":
            return ("at", things[0], _stored_kinds(node[2]))
        if word == "hide":
            return ("hide", stored_kind_of(node[1]), things[0], stored_kind_of(node[3]))
        if word == "fold":
            return ("fold", stored_kind_of(node[1]), things[0])
        return with_things(closed_slots(sort, word), node, things)

    def added(self, row):
        """The name of a row that makes a thing."""
        self.rows.append(row)
        self.names = self.names + 1
        return ("name", self.names - 1)

    def room(self, kinds, things):
        room = self.added(("room", kinds))
        for index, thing in enumerate(things):
            room = self.added(("put", room, index, thing))
        return room
