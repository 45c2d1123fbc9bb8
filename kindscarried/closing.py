"""From programs in turns to closed ones."""

from kindscarried.bodies import inner_bodies, remade_body
from kindscarried.errors import InvalidCount, InvalidKind
from kindscarried.integers import is_index
from kindscarried.keeping import all_kept
from kindscarried.kinds import CLOSED_WORDS, bound_by, inner_kinds, is_kind_anywhere, opened, shut, with_inner
from kindscarried.turns import ENDS, ROWS
from kindscarried.turns_looker import functions_made


def closed_kind(kind):
    """The kind of the closed level of a kind in turns: a function is hidden with the row that it is handed."""
    if not is_kind_anywhere(kind, CLOSED_WORDS):
        raise InvalidKind("a kind of programs in turns is wanted")
    return _closed(kind)


def _closed(whole):
    done = []
    # What is around a kind: None, or (the kind that it stands right in, what is around this).
    pending = [(whole, None, False)]
    while pending:
        kind, around, ready = pending.pop()
        if ready:
            start = len(done) - len(inner_kinds(kind))
            inner = tuple(done[start:])
            del done[start:]
            done.append(_closed_node(kind, inner))
        elif kind[0] == "var":
            done.append(("var", kind[1] + _hidden_within(kind[1], around)))
        else:
            pending.append((kind, around, True))
            for inner_kind in reversed(inner_kinds(kind)):
                pending.append((inner_kind, (kind, around), False))
    return done[0]


def _closed_node(kind, inner):
    if kind[0] != "not":
        return with_inner(kind, inner)
    many = kind[1]
    return ("some", ("row", (("not", many, (("var", many),) + inner), ("var", 0))))


def _hidden_within(number, around):
    """How many functions, each of which gets one binder more, stand between a variable and what binds it."""
    many = 0
    kind, further = around
    while number >= bound_by(kind):
        number = number - bound_by(kind)
        if kind[0] == "not":
            many = many + 1
        kind, further = further
    return many


def kept_names(program, j):
    """The lot of the names from outside of a function that it uses, or that a function made in it keeps."""
    made = functions_made(program)
    if not is_index(j) or not 0 < j < len(program):
        raise InvalidCount("the index of a function but the start is wanted")
    kept = all_kept(program, made)
    return tuple(kept[j])


def closed_of(program):
    """The closed program of a program in turns."""
    closer = Closer(program)
    start = closer.body_behind([], 0, program[0][2])
    blocks = [closer.block(number) for number in range(1, len(program))]
    return (tuple(blocks), start)


def _frees(first, behind):
    return tuple([("free", number) for number in range(first, behind)])


class Closer:
    """Makes the blocks of one program in turns.

    held leads from the number of each function to the kind of the row of the names
    that it keeps. numbers leads from each name in turns that is in scope to the number
    of its name here, None of one that is not kept; names is how many are in scope here.
    """

    def __init__(self, program):
        self.program = program
        self.makings = functions_made(program)
        self.kept = all_kept(program, self.makings)
        self.held = {}
        for number, made in self.makings.items():
            self.held[number] = ("row", tuple([_closed(made.names[name]) for name in self.kept[number]]))
        self.numbers = []
        self.names = 0
        self.rows = []

    def block(self, number):
        """The block of a function but the start."""
        made = self.makings[number]
        kept = self.kept[number]
        many, kinds, body = self.program[number]
        free = made.free + many
        given = [self.held[number]]
        given.extend([_closed(kind) for kind in opened(made.kind, _frees(made.free, free))])
        order = tuple(range(free))
        first = 1 + len(kinds)
        numbers = [None] * made.many
        for index, name in enumerate(kept):
            numbers[name] = first + index
        numbers.append(first + len(kept))
        numbers.extend(list(range(1, first)))
        rows = [("part", ("name", 0), index) for index in range(len(kept))]
        rows.append(self.pair(number, ("name", 0)))
        behind, end = self.body_behind(numbers, first + len(rows), body)
        return (free, tuple([shut(kind, order) for kind in given]), (tuple(rows) + behind, end))

    def pair(self, number, held):
        """The row that makes what a function becomes, of the thing that has what it keeps."""
        made = self.makings[number]
        label = ("at", ("label", number - 1), _frees(0, made.free))
        return ("thing", ("hide", self.held[number], ("row", (label, held)), _closed(made.kind)))

    def body_behind(self, numbers, names, body):
        """What a body becomes, ahead of which names in turns have these numbers, and so many names are in scope."""
        self.numbers = list(numbers)
        return remade_body(self, body, (len(numbers), names, 0))

    def rows_and_end(self, body, scope):
        """scope is (how many names in turns are in scope, how many here, how many the body binds behind these)."""
        many, self.names, bound = scope
        del self.numbers[many:]
        for _ in range(bound):
            self.bind()
        self.rows = []
        for row in body[0]:
            self.remake(row)
        end = self.end(body[1])
        bound = 1 if end[0] == "match" else 0
        inside = (len(self.numbers), self.names, bound)
        return (tuple(self.rows), end, [inside for _ in inner_bodies(end)])

    def bind(self):
        """The next name in turns is the next one here."""
        self.numbers.append(self.names)
        self.names = self.names + 1

    def remake(self, row):
        word = row[0]
        if word == "fun":
            kept = [self.thing(("name", name)) for name in self.kept[row[1]]]
            self.rows.append(self.pair(row[1], ("row", tuple(kept))))
        elif word in ("row", "tag", "fold", "hide"):
            self.rows.append(("thing", self.part_by_part(ROWS[word], row)))
        else:
            self.rows.append(self.part_by_part(ROWS[word], row))
        if word in ("set", "say"):
            self.names = self.names + 1
        else:
            self.bind()

    def end(self, end):
        """What becomes of an end, the rows ahead of it for a jump being added."""
        new = self.part_by_part(ENDS[end[0]], end)
        if end[0] != "jump":
            return new
        _, called, kinds, things = new
        first = self.names
        self.rows.extend([("open", called), ("part", ("name", first), 0), ("part", ("name", first), 1)])
        return ("jump", ("at", ("name", first + 1), kinds), (("name", first + 2),) + things)

    def part_by_part(self, slots, node):
        members = [node[0]]
        for slot, member in zip(slots, node[1:]):
            if slot == "thing":
                members.append(self.thing(member))
            elif slot == "things":
                members.append(tuple([self.thing(part) for part in member]))
            elif slot == "kind":
                members.append(_closed(member))
            elif slot == "kinds":
                members.append(tuple([_closed(kind) for kind in member]))
            else:
                members.append(member)
        return tuple(members)

    def thing(self, thing):
        return ("name", self.numbers[thing[1]]) if thing[0] == "name" else thing
