"""Numbers for kinds, by which kinds that are the same can be looked up."""

from kindscarried.kinds import remade


class KindNumbers:
    """Gives each kind a number, the same one to kinds that are the same, however deep they are nested.

    wanted is the list that tells for each number how many kind variables must be in
    scope for the kind.
    """

    def __init__(self):
        self.numbers = {}
        self.wanted = []

    def number_of(self, kind):
        return remade(kind, self.leaf_number, self.number_with)

    def leaf_number(self, kind, bound):
        return self.number_for(kind, kind[1] + 1 if kind[0] == "free" else 0)

    def number_with(self, kind, inner):
        """The number of a kind whose inner kinds have these numbers."""
        wanted = max([0] + [self.wanted[number] for number in inner])
        if kind[0] == "room":
            return self.number_for(("room", inner, tuple([place[1] for place in kind[1]])), wanted)
        if kind[0] in ("to", "not", "code"):
            return self.number_for((kind[0], kind[1], inner), wanted)
        return self.number_for((kind[0], inner), wanted)

    def number_for(self, key, wanted):
        if key not in self.numbers:
            self.numbers[key] = len(self.numbers)
            self.wanted.append(wanted)
        return self.numbers[key]


def free_written(value):
    """The dict of the numbers of the free kind variables that stand anywhere in a tuple of a right program."""
    found = {}
    pending = [value]
    while pending:
        part = pending.pop()
        if part[:1] == ("free",):
            found[part[1]] = True
        else:
            pending.extend([inner for inner in part if type(inner) is tuple])
    return found
