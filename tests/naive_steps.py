"""The steps from in turns to closed and from closed to stored programs, told plainly, by calls within calls."""

from kindscarried.kinds import opened, shut
from tests.naive_lookers import Blocks
from kindscarried.kinds import CLOSED_WORDS


def closed(kind, binders=()):
    """closed_kind; binders are the pairs (how many variables, whether it is a function) around, innermost first."""
    word = kind[0]
    if word == "var":
        left, more = kind[1], 0
        for many, function in binders:
            if left < many:
                break
            left -= many
            more += function
        return ("var", kind[1] + more)
    if word in ("int", "free"):
        return kind
    if word in ("row", "one"):
        return (word, tuple(closed(inner, binders) for inner in kind[1]))
    if word == "cell":
        return ("cell", closed(kind[1], binders))
    if word in ("some", "rec"):
        return (word, closed(kind[1], ((1, 0),) + binders))
    inner = tuple(closed(part, ((kind[1], 1),) + binders) for part in kind[2])
    return ("some", ("row", (("not", kind[1], (("var", kind[1]),) + inner), ("var", 0))))


def frees(first, many):
    return tuple(("free", first + i) for i in range(many))


class Scopes:
    """Of a program in turns: of each function the kinds of the names ahead of the row that makes it, and its free kind variables; what stands in it."""

    def __init__(self, program):
        self.program = program
        self.ahead = {0: ([], 0)}
        self.names = {j: set() for j in range(len(program))}
        self.makes = {j: [] for j in range(len(program))}
        for j, (n, ks, body) in enumerate(program):
            names, free = self.ahead[j]
            own = list(names)
            if j:
                own += [("not", n, ks)] + list(opened(("not", n, ks), frees(free, n)))
            self.body(j, body, own, free + n)

    def body(self, j, body, names, free):
        from kindscarried.kinds import unfolded

        def kind_of(thing):
            if thing[0] == "int":
                return ("int",)
            self.names[j].add(thing[1])
            return names[thing[1]]

        for row in body[0]:
            word = row[0]
            for member in row[1:]:
                if isinstance(member, tuple) and member[:1] == ("name",) and len(member) == 2 and type(member[1]) is int:
                    self.names[j].add(member[1])
            if word == "sum":
                names.append(("int",))
            elif word == "fun":
                self.ahead[row[1]] = (list(names), free)
                self.makes[j].append(row[1])
                names.append(("not",) + self.program[row[1]][:2])
            elif word == "row":
                names.append(("row", tuple(kind_of(v) for v in row[1])))
            elif word == "part":
                names.append(kind_of(row[1])[1][row[2]])
            elif word == "tag":
                names.append(row[2])
            elif word == "cell":
                names.append(("cell", kind_of(row[1])))
            elif word == "get":
                names.append(kind_of(row[1])[1])
            elif word == "fold":
                names.append(row[1])
            elif word == "unfold":
                names.append(unfolded(kind_of(row[1])))
            elif word == "hide":
                names.append(row[3])
            elif word == "open":
                names.append(opened(kind_of(row[1]), (("free", free),)))
                free += 1
        end = body[1]
        kind = kind_of(end[1])
        if end[0] == "when":
            self.body(j, end[2], list(names), free)
            self.body(j, end[3], list(names), free)
        elif end[0] == "match":
            for i, inner in enumerate(end[2]):
                self.body(j, inner, list(names) + [kind[1][i]], free)
        elif end[0] == "jump":
            for v in end[3]:
                kind_of(v)

    def kept(self, j):
        names = set(self.names[j])
        for k in self.makes[j]:
            names.update(self.kept(k))
        return tuple(sorted(name for name in names if name < len(self.ahead[j][0])))


def naive_closed_of(program):
    scopes = Scopes(program)
    blocks = []
    for j, (n, ks, body) in enumerate(program):
        if j == 0:
            start = closed_body(program, scopes, body, {}, 0, 0)
            continue
        names, d = scopes.ahead[j]
        kept = scopes.kept(j)
        held = ("row", tuple(closed(names[i]) for i in kept))
        things = (held,) + tuple(closed(kind) for kind in opened(("not", n, ks), frees(d, n)))
        head = tuple(shut(kind, range(d + n)) for kind in things)
        many = len(things)
        where = {name: many + at for at, name in enumerate(kept)}
        where[len(names)] = many + len(kept)
        where.update({len(names) + 1 + i: 1 + i for i in range(len(ks))})
        rows = tuple(("part", ("name", 0), at) for at in range(len(kept)))
        rows += (pair(program, scopes, j, ("name", 0)),)
        rest = closed_body(program, scopes, body, where, len(names) + 1 + len(ks), many + len(kept) + 1)
        blocks.append((d + n, head, (rows + rest[0], rest[1])))
    return (tuple(blocks), start)


def pair(program, scopes, j, held):
    names, d = scopes.ahead[j]
    kind = ("row", tuple(closed(names[i]) for i in scopes.kept(j)))
    return ("thing", ("hide", kind, ("row", (("at", ("label", j - 1), frees(0, d)), held)), closed(("not",) + program[j][:2])))


def closed_body(program, scopes, body, where, theirs, ours):
    """where leads from names in turns to names here; theirs and ours are how many there are in scope."""
    where = dict(where)
    rows = []

    def thing(v):
        return ("name", where[v[1]]) if v[0] == "name" else v

    for row in body[0]:
        word = row[0]
        if word == "fun":
            rows.append(pair(program, scopes, row[1], ("row", tuple(thing(("name", i)) for i in scopes.kept(row[1])))))
        elif word == "row":
            rows.append(("thing", ("row", tuple(thing(v) for v in row[1]))))
        elif word == "tag":
            rows.append(("thing", ("tag", row[1], closed(row[2]), thing(row[3]))))
        elif word == "fold":
            rows.append(("thing", ("fold", closed(row[1]), thing(row[2]))))
        elif word == "hide":
            rows.append(("thing", ("hide", closed(row[1]), thing(row[2]), closed(row[3]))))
        elif word == "sum":
            rows.append(row[:2] + (thing(row[2]), thing(row[3])))
        elif word == "set":
            rows.append(("set", thing(row[1]), thing(row[2])))
        elif word == "part":
            rows.append(("part", thing(row[1]), row[2]))
        else:
            rows.append((word, thing(row[1])))
        if word not in ("set", "say"):
            where[theirs] = ours
            theirs += 1
        ours += 1
    end = body[1]
    if end[0] == "halt":
        last = ("halt", thing(end[1]))
    elif end[0] == "when":
        last = ("when", thing(end[1])) + tuple(closed_body(program, scopes, inner, where, theirs, ours) for inner in end[2:])
    elif end[0] == "match":
        inside = dict(where)
        inside[theirs] = ours
        last = ("match", thing(end[1]), tuple(closed_body(program, scopes, inner, inside, theirs + 1, ours + 1) for inner in end[2]))
    else:
        rows += [("open", thing(end[1])), ("part", ("name", ours), 0), ("part", ("name", ours), 1)]
        last = ("jump", ("at", ("name", ours + 1), tuple(closed(kind) for kind in end[2])), (("name", ours + 2),) + tuple(thing(v) for v in end[3]))
    return (tuple(rows), last)


def stored(kind):
    word = kind[0]
    if word in ("int", "free", "var"):
        return kind
    if word == "row":
        return ("room", tuple((stored(inner), True) for inner in kind[1]))
    if word == "one":
        return ("one", tuple(stored(inner) for inner in kind[1]))
    if word == "not":
        return kind[:2] + (tuple(stored(inner) for inner in kind[2]),)
    return (word, stored(kind[1]))


class Recording(Blocks):
    """The plain looker, which also keeps the kinds of things."""

    def __init__(self):
        super().__init__(CLOSED_WORDS)
        self.kinds = {}

    def thing(self, thing, place, names, free):
        kind = super().thing(thing, place, names, free)
        self.kinds[place] = kind
        return kind


def naive_stored_of(program):
    looker = Recording()
    looker.look(program)
    blocks = tuple((n, tuple(stored(kind) for kind in ks), stored_body(looker.kinds, body, (0, b, 2), list(range(len(ks))), len(ks)))
                   for b, (n, ks, body) in enumerate(program[0]))
    return (blocks, stored_body(looker.kinds, program[1], (1,), [], 0))


def stored_body(kinds, body, place, where, ours):
    """where is the list of the names here of those in scope."""
    rows = []
    where = list(where)

    def put(row):
        rows.append(row)
        return ("name", ours + len(rows) - 1)

    def thing(v, at):
        word = v[0]
        if word == "name":
            return ("name", where[v[1]])
        if word == "row":
            things = [thing(inner, at + (1, i)) for i, inner in enumerate(v[1])]
            told = put(("room", tuple(stored(kinds[at + (1, i)]) for i in range(len(things)))))
            for i, inner in enumerate(things):
                told = put(("put", told, i, inner))
            return told
        if word == "tag":
            inner = thing(v[3], at + (3,))
            return put(("tagged", v[1], stored(v[2]), inner))
        if word == "at":
            return ("at", thing(v[1], at + (1,)), tuple(stored(kind) for kind in v[2]))
        if word == "hide":
            return ("hide", stored(v[1]), thing(v[2], at + (2,)), stored(v[3]))
        if word == "fold":
            return ("fold", stored(v[1]), thing(v[2], at + (2,)))
        return v

    for r, row in enumerate(body[0]):
        at = place + (0, r)
        word = row[0]
        if word == "sum":
            first = thing(row[2], at + (2,))
            new = ("sum", row[1], first, thing(row[3], at + (3,)))
        elif word == "set":
            first = thing(row[1], at + (1,))
            new = ("set", first, thing(row[2], at + (2,)))
        else:
            new = (word, thing(row[1], at + (1,))) + row[2:]
        where.append(put(new)[1])
    end, at = body[1], place + (1,)
    first = thing(end[1], at + (1,))
    if end[0] == "jump":
        last = ("jump", first, tuple(thing(v, at + (2, i)) for i, v in enumerate(end[2])))
    elif end[0] == "halt":
        last = ("halt", first)
    elif end[0] == "when":
        last = ("when", first) + tuple(stored_body(kinds, end[k], at + (k,), where, ours + len(rows)) for k in (2, 3))
    else:
        last = ("match", first, tuple(stored_body(kinds, inner, at + (2, i), where + [ours + len(rows)], ours + len(rows) + 1) for i, inner in enumerate(end[2])))
    return (tuple(rows), last)
