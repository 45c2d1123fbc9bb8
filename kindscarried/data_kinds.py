"""The kinds of core that found kinds become."""

from kindscarried.errors import TooMany
from kindscarried.options import data_table

MOST_NODES = 200
MOST_DEEP = 20


class Inside:
    """Where a written kind stands: in which data, of which kinds, below which "rec".

    kinds leads from each parameter to a pair (kind, Inside of it), the latter None
    for a found kind; level is how many "rec" stand around the one of this data.
    """

    def __init__(self, word, kinds, level):
        self.word = word
        self.kinds = kinds
        self.level = level


class Carrier:
    """Makes one core kind, and counts its nodes."""

    def __init__(self, datas):
        self.datas = data_table(datas)
        self.nodes = 0

    def add_nodes(self, many, depth):
        """Counts so many nodes, the deepest of them standing so deep."""
        self.nodes = self.nodes + many
        if self.nodes > MOST_NODES or depth > MOST_DEEP:
            raise TooMany(MOST_NODES)

    def carry(self, kind, inside, level, depth):
        """The core kind, below so many "rec", of a found or (inside a data) written kind."""
        while inside is not None and kind[0] == "word" and kind[1] in inside.kinds:
            kind, inside = inside.kinds[kind[1]]
        word = kind[0]
        if word == "data":
            return self.carry_data(kind, inside, level, depth)
        if word == "word":
            if kind[1] != inside.word:
                return self.carry_data(kind, inside, level, depth)
            self.add_nodes(1, depth)
            return ("var", level - 1 - inside.level)
        self.add_nodes(1, depth)
        if word == "open":
            return ("row", ())
        if word == "fun":
            kinds = self.carry_all(kind[1], inside, level, depth + 1)
            return ("to", 0, kinds, self.carry(kind[2], inside, level, depth + 1))
        if word == "row":
            return ("row", self.carry_all(kind[1], inside, level, depth + 1))
        if word == "cell":
            return ("cell", self.carry(kind[1], inside, level, depth + 1))
        return kind

    def carry_all(self, kinds, inside, level, depth):
        return tuple([self.carry(kind, inside, level, depth) for kind in kinds])

    def carry_data(self, kind, inside, level, depth):
        """The core kind of a data with kinds: ("data" or "word", its word, kinds)."""
        word, parameters, choices = self.datas[kind[1]]
        told = {name: (part, inside) for name, part in zip(parameters, kind[2])}
        within = Inside(word, told, level)
        self.add_nodes(2, depth + 1)
        rows = []
        for _, kinds in choices:
            self.add_nodes(1, depth + 2)
            rows.append(("row", self.carry_all(kinds, within, level + 1, depth + 3)))
        return ("rec", ("one", tuple(rows)))


def carried_kind(datas, kind):
    """The core kind of a found kind; TooMany(200) if it is too great."""
    return Carrier(datas).carry(kind, None, 0, 1)
