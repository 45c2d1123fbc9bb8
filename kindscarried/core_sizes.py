"""How many parts a term has, and how deep they are nested, once things are put in.

A run by steps must tell when the next term has too many parts. It does not build
that term: it tells its size from those of the things and kinds that stand for the
names and kind variables in it.
"""

from kindscarried.core_shapes import SLOTS, kinds_bound, names_bound
from kindscarried.kinds import inner_kinds


class Size:
    """The size of a term or kind, as far as it hangs on what is put in.

    parts and depth are those with each name and free kind variable counted as
    one part; names and kinds are lists of (number, how often it stands there,
    how deep it stands at the deepest).
    """

    def __init__(self, parts, depth, names, kinds):
        self.parts = parts
        self.depth = depth
        self.names = names
        self.kinds = kinds

    def with_put_in(self, things, kinds):
        """(parts, depth) when these things and kinds, each with its own parts and depth, are put in."""
        parts = self.parts
        depth = self.depth
        for number, many, deepest in self.names:
            thing = things[number]
            parts = parts + many * (thing.parts - 1)
            depth = max(depth, deepest + thing.depth - 1)
        for number, many, deepest in self.kinds:
            kind_parts, kind_depth = kinds[number]
            parts = parts + many * (kind_parts - 1)
            depth = max(depth, deepest + kind_depth - 1)
        return (parts, depth)


class Tally:
    """Adds up the sizes of what stands in a term."""

    def __init__(self):
        self.parts = 1
        self.depth = 1
        self.names = {}
        self.kinds = {}

    def reckon(self, size):
        """Adds the size of what stands right in the term."""
        self.parts = self.parts + size.parts
        self.depth = max(self.depth, size.depth + 1)
        for number, many, deepest in size.names:
            before, deep = self.names.get(number, (0, 0))
            self.names[number] = (before + many, max(deep, deepest + 1))
        for number, many, deepest in size.kinds:
            before, deep = self.kinds.get(number, (0, 0))
            self.kinds[number] = (before + many, max(deep, deepest + 1))

    def size(self, names, kinds):
        """The size in the scope of so many names and kind variables."""
        name_rows = [(number, many, deep) for number, (many, deep) in self.names.items() if number < names]
        kind_rows = [(number, many, deep) for number, (many, deep) in self.kinds.items() if number < kinds]
        return Size(self.parts, self.depth, name_rows, kind_rows)


class Sized:
    """A term of a program with its sizes.

    inner are the terms that it evaluates, bodies those in it that it does not,
    kinds the sizes of the kinds that are written in it; whole is its size, own
    the size without the terms that it evaluates.
    """

    def __init__(self, term, inner, bodies, kinds, whole, own):
        self.term = term
        self.inner = inner
        self.bodies = bodies
        self.kinds = kinds
        self.whole = whole
        self.own = own


def kind_size(kind):
    """The size of a kind over the free kind variables in scope."""
    parts = 0
    deepest = 0
    free = {}
    pending = [(kind, 1)]
    while pending:
        part, depth = pending.pop()
        parts = parts + 1
        deepest = max(deepest, depth)
        if part[0] == "free":
            before, deep = free.get(part[1], (0, 0))
            free[part[1]] = (before + 1, max(deep, depth))
        for inner in inner_kinds(part):
            pending.append((inner, depth + 1))
    return Size(parts, deepest, [], [(number, many, deep) for number, (many, deep) in free.items()])


def sized(term, names, kinds):
    """A term in the scope of so many names and kind variables, with its sizes."""
    if term[0] == "name":
        size = Size(1, 1, [(term[1], 1, 1)], [])
        return Sized(term, [], [], [], size, size)
    inner = []
    bodies = []
    written = []
    for slot, member in zip(SLOTS[term[0]], term[1:]):
        if slot == "term":
            inner.append(sized(member, names, kinds))
        elif slot == "terms":
            for part in member:
                inner.append(sized(part, names, kinds))
        elif slot == "branch":
            bodies.append(sized(member, names, kinds))
        elif slot == "body":
            bodies.append(sized(member, names + names_bound(term), kinds + kinds_bound(term)))
        elif slot == "bodies":
            for part in member:
                bodies.append(sized(part, names + 1, kinds))
        elif slot in ("kind", "own kind"):
            written.append(kind_size(member))
        elif slot in ("kinds", "own kinds"):
            written.extend([kind_size(kind) for kind in member])
    tally = Tally()
    for size in written + [body.whole for body in bodies]:
        tally.reckon(size)
    own = tally.size(names, kinds)
    for part in inner:
        tally.reckon(part.whole)
    return Sized(term, inner, bodies, written, tally.size(names, kinds), own)
