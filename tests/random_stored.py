"""Right stored programs by chance, from a seed, in which many names stay alive over many rows."""

import random

from kindscarried.kinds import fits, opened, opened_first, unfolded

INT = ("int",)
VAR = ("var", 0)
UNIT = ("room", ())
PAIR = ("room", ((INT, True), (INT, True)))
HALF = ("room", ((INT, True), (INT, False)))
BOTH = ("one", (INT, HALF))
LIST = ("rec", ("one", (UNIT, ("room", ((INT, True), (VAR, True))))))
PACK = ("some", ("room", ((VAR, True), (("not", 0, (VAR,)), True))))
HEADS = ((0, (INT,)), (1, (VAR, ("cell", VAR))), (0, (HALF, BOTH)), (2, (("var", 1), ("not", 1, (VAR, ("var", 2))))), (0, (PACK, LIST, INT)), (0, ()))


class StoredMaker:
    """Bodies, row by row, in the scope of names of kinds."""

    def __init__(self, seed, rows=14, depth=2, says=6):
        self.rng = random.Random(seed)
        self.rows = rows
        self.depth = depth
        self.says = says

    def program(self):
        blocks = []
        for many, kinds in HEADS:
            own = tuple(("free", i) for i in range(many))
            blocks.append((many, kinds, self.body(list(opened(("not", many, kinds), own)), many, self.depth - 1)))
        return (tuple(blocks), self.body([], 0, self.depth))

    def pick(self, kinds, holds):
        found = [i for i, kind in enumerate(kinds) if holds(kind)]
        return self.rng.choice(found) if found else None

    def of_kind(self, kinds, wanted, free, depth=2):
        """A thing that fits the kind, None if none is found."""
        found = [("name", i) for i, kind in enumerate(kinds) if fits(kind, wanted)]
        if found and self.rng.random() < 0.85:
            return self.rng.choice(found)
        if wanted == INT:
            return ("int", self.rng.choice((0, 0, 1, 2, -1, 2 ** 31 - 1)))
        if depth and wanted[0] == "rec":
            inner = self.of_kind(kinds, unfolded(wanted), free, depth - 1)
            return inner and ("fold", wanted, inner)
        if depth and wanted[0] == "some":
            for hidden in (INT, UNIT, PAIR):
                inner = self.of_kind(kinds, opened(wanted, (hidden,)), free, depth - 1)
                if inner:
                    return ("hide", hidden, inner, wanted)
        if wanted[0] == "not":
            for b, (many, ks) in enumerate(HEADS):
                kind = ("not", many, ks)
                if kind == wanted:
                    return ("label", b)
                for given in (INT, UNIT, PAIR):
                    if many and opened_first(kind, (given,)) == wanted:
                        return ("at", ("label", b), (given,))
        return self.rng.choice(found) if found else None

    def some_kind(self, free):
        kinds = [INT, INT, UNIT, PAIR, HALF, BOTH, LIST, PACK, ("cell", INT), ("not", 0, (INT,))] + [("free", i) for i in range(free)]
        return self.rng.choice(kinds)

    def row(self, kinds, free):
        """(row, kind) or None."""
        rng = self.rng
        sort = rng.choice(("thing", "sum", "sum", "part", "part", "cell", "get", "set", "unfold", "open", "say", "room", "put", "put", "put", "tagged"))
        if sort == "thing":
            kind = self.some_kind(free)
            thing = self.of_kind(kinds, kind, free)
            if thing is None:
                return None
            return ("thing", thing), kinds[thing[1]] if thing[0] == "name" else kind
        if sort == "sum":
            return ("sum", rng.choice(("add", "take", "times", "less", "same")), self.of_kind(kinds, INT, free), self.of_kind(kinds, INT, free)), INT
        if sort == "part":
            at = self.pick(kinds, lambda kind: kind[0] == "room" and any(place[1] for place in kind[1]))
            if at is None:
                return None
            index = rng.choice([i for i, place in enumerate(kinds[at][1]) if place[1]])
            return ("part", ("name", at), index), kinds[at][1][index][0]
        if sort == "room":
            inner = tuple(self.some_kind(free) for _ in range(rng.randrange(4)))
            return ("room", inner), ("room", tuple((kind, False) for kind in inner))
        if sort == "put":
            at = self.pick(kinds, lambda kind: kind[0] == "room" and kind[1])
            if at is None:
                return None
            index = rng.randrange(len(kinds[at][1]))
            thing = self.of_kind(kinds, kinds[at][1][index][0], free)
            if thing is None:
                return None
            places = list(kinds[at][1])
            places[index] = (places[index][0], True)
            return ("put", ("name", at), index, thing), ("room", tuple(places))
        if sort == "tagged":
            one = rng.choice((BOTH, unfolded(LIST)))
            index = rng.randrange(len(one[1]))
            thing = self.of_kind(kinds, one[1][index], free)
            return None if thing is None else (("tagged", index, one, thing), one)
        if sort == "say":
            return ("say", self.of_kind(kinds, INT, free)), UNIT
        return self.row_of_name(kinds, free, sort)

    def row_of_name(self, kinds, free, sort):
        if sort == "cell":
            at = self.pick(kinds, lambda kind: True)
            return None if at is None else (("cell", ("name", at)), ("cell", kinds[at]))
        word = {"get": "cell", "set": "cell", "unfold": "rec", "open": "some"}[sort]
        at = self.pick(kinds, lambda kind: kind[0] == word)
        if at is None:
            return None
        kind = kinds[at]
        if sort == "get":
            return ("get", ("name", at)), kind[1]
        if sort == "set":
            thing = self.of_kind(kinds, kind[1], free)
            return None if thing is None else (("set", ("name", at), thing), UNIT)
        if sort == "unfold":
            return ("unfold", ("name", at)), unfolded(kind)
        return ("open", ("name", at)), opened(kind, (("free", free),))

    def body(self, kinds, free, depth):
        kinds = list(kinds)
        rows = []
        for _ in range(self.rng.randrange(self.rows + 1)):
            made = self.row(kinds, free)
            if made is not None:
                row, kind = made
                rows.append(row)
                kinds.append(kind)
                free += row[0] == "open"
        ints = [i for i, kind in enumerate(kinds) if kind == INT]
        for i in self.rng.sample(ints, min(len(ints), self.rng.randrange(self.says + 1))):
            rows.append(("say", ("name", i)))
            kinds.append(UNIT)
        return (tuple(rows), self.end(kinds, free, depth))

    def end(self, kinds, free, depth):
        sort = self.rng.choice(("halt", "jump", "jump", "when", "match")) if depth > 0 else self.rng.choice(("halt", "jump", "jump"))
        if sort == "when":
            return ("when", self.of_kind(kinds, INT, free), self.body(kinds, free, depth - 1), self.body(kinds, free, depth - 1))
        if sort == "match":
            at = self.pick(kinds, lambda kind: kind[0] == "one")
            if at is not None:
                return ("match", ("name", at), tuple(self.body(kinds + [kind], free, depth - 1) for kind in kinds[at][1]))
        if sort == "jump":
            jump = self.jump(kinds, free)
            if jump is not None:
                return jump
        return ("halt", self.of_kind(kinds, INT, free))

    def jump(self, kinds, free):
        found = [("name", i) for i, kind in enumerate(kinds) if kind[:2] == ("not", 0)]
        goals = [(thing, kinds[thing[1]]) for thing in found]
        for b, (many, ks) in enumerate(HEADS):
            given = tuple(self.some_kind(free) for _ in range(many))
            kind = opened_first(("not", many, ks), given)
            goals.append((("at", ("label", b), given) if many else ("label", b), kind))
        self.rng.shuffle(goals)
        for thing, kind in goals:
            things = tuple(self.of_kind(kinds, wanted, free) for wanted in opened(kind, ()))
            if None not in things:
                return ("jump", thing, things)
        return None
