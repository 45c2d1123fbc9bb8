"""Core terms by chance, from a seed, each of a kind that is told beforehand."""

import random

from kindscarried.kinds import opened, unfolded

INT = ("int",)
NOTHING = ("row", ())
LIST = ("rec", ("one", (NOTHING, ("row", (INT, ("var", 0))))))
PACK = ("some", ("row", (("var", 0), ("to", 0, (("var", 0),), INT))))
SAME = ("to", 1, (("var", 0),), ("var", 0))
PAIR = ("to", 2, (("var", 0), ("var", 1)), ("row", (("var", 1), ("var", 0))))
STREAM = ("rec", ("to", 0, (), ("row", (INT, ("var", 0)))))


class CoreMaker:
    """Terms in the scope of so many kind variables, and of names of kinds."""

    def __init__(self, seed, literals=(0, 1, 2, -1, 2147483647, -2147483648)):
        self.rng = random.Random(seed)
        self.literals = literals

    def kind(self, free, depth=2):
        sort = self.rng.randrange(14) if depth else self.rng.randrange(4)
        if sort < 3 or sort == 3 and not free:
            return INT
        if sort == 3:
            return ("free", self.rng.randrange(free))
        if sort in (4, 5):
            return ("row", tuple(self.kind(free, depth - 1) for _ in range(self.rng.randrange(4))))
        if sort == 6:
            return ("one", tuple(self.kind(free, depth - 1) for _ in range(1 + self.rng.randrange(3))))
        if sort == 7:
            return ("cell", self.kind(free, depth - 1))
        if sort == 8:
            return ("to", 0, tuple(self.kind(free, depth - 1) for _ in range(self.rng.randrange(3))), self.kind(free, depth - 1))
        return (LIST, PACK, SAME, PAIR, STREAM)[sort - 9]

    def term(self, kind, free, names, fuel):
        fitting = [i for i, other in enumerate(names) if other == kind]
        if fitting and self.rng.random() < (0.8 if fuel <= 0 else 0.2):
            return ("name", self.rng.choice(fitting))
        if kind[0] == "free":
            return ("name", self.rng.choice(fitting)) if fitting else None
        if fuel <= 0 or self.rng.random() < 0.4:
            return self.plain(kind, free, names, fuel)
        term = self.around(kind, free, names, fuel)
        return self.plain(kind, free, names, fuel) if term is None else term

    def several(self, kinds, free, names, fuel):
        each = fuel // (len(kinds) or 1) - 1
        terms = tuple(self.term(kind, free, names, each) for kind in kinds)
        return None if None in terms else terms

    def plain(self, kind, free, names, fuel):
        word = kind[0]
        if word == "int":
            if fuel <= 0:
                return ("int", self.rng.choice(self.literals))
            terms = self.several((INT, INT), free, names, fuel)
            return ("sum", self.rng.choice(("add", "take", "times", "less", "same"))) + terms
        if word == "row":
            terms = self.several(kind[1], free, names, fuel)
            return None if terms is None else ("row", terms)
        if word == "one":
            index = 0 if fuel <= 0 else self.rng.randrange(len(kind[1]))
            inner = self.term(kind[1][index], free, names, fuel - 1)
            return None if inner is None else ("tag", index, kind, inner)
        if word == "cell":
            inner = self.term(kind[1], free, names, fuel - 1)
            return None if inner is None else ("cell", inner)
        if word == "rec":
            inner = self.term(unfolded(kind), free, names, fuel - 1)
            return None if inner is None else ("fold", kind, inner)
        if word == "some":
            hidden = self.kind(free, 1)
            inner = self.term(opened(kind, (hidden,)), free, names, fuel - 1)
            return None if inner is None else ("hide", hidden, inner, kind)
        return self.function(kind, free, names, fuel)

    def function(self, kind, free, names, fuel):
        ks, result = opened(kind, tuple(("free", free + i) for i in range(kind[1])))
        if fuel < -8:
            return None
        body = self.term(result, free + kind[1], names + (kind,) + ks, fuel - 1)
        return None if body is None else ("fun", kind[1], kind[2], kind[3], body)

    def around(self, kind, free, names, fuel):
        sort = self.rng.randrange(12)
        half = fuel // 2
        if sort == 0:
            terms = self.several((INT, kind, kind), free, names, fuel)
            return None if terms is None else ("when",) + terms
        if sort in (1, 2):
            inner = self.kind(free)
            first = self.term(inner, free, names, half)
            second = self.term(kind, free, names + (inner,), half)
            return None if first is None or second is None else ("let", first, second)
        if sort == 3:
            kinds = [self.kind(free, 1) for _ in range(self.rng.randrange(3))]
            at = self.rng.randrange(len(kinds) + 1)
            kinds.insert(at, kind)
            row = self.term(("row", tuple(kinds)), free, names, fuel - 1)
            return None if row is None else ("part", row, at)
        if sort in (4, 5):
            return self.call(kind, free, names, fuel)
        if sort == 6:
            return self.match(kind, free, names, half)
        if sort == 7:
            cell = self.term(("cell", kind), free, names, fuel - 1)
            return None if cell is None else ("get", cell)
        if sort == 8:
            first = self.term(INT, free, names, half)
            second = self.term(kind, free, names + (NOTHING,), half)
            return None if first is None or second is None else ("let", ("say", first), second)
        if sort == 9:
            inner = self.kind(free, 1)
            terms = self.several((("cell", inner), inner), free, names, half)
            second = self.term(kind, free, names + (NOTHING,), half)
            return None if terms is None or second is None else ("let", ("set",) + terms, second)
        some = self.term(PACK, free, names, half)
        inside = names + (opened(PACK, (("free", free),)),)
        body = self.term(kind, free + 1, inside, half)
        if sort == 10 and kind == INT:
            body = ("call", ("part", ("name", len(names)), 1), (), (("part", ("name", len(names)), 0),))
        return None if some is None or body is None else ("open", some, body)

    def call(self, kind, free, names, fuel):
        half = fuel // 2
        sort = self.rng.randrange(3)
        if sort == 0:
            inner = self.kind(free, 1)
            wanted, kinds, given = SAME, (kind,), (kind,)
        elif sort == 1 and kind[0] == "row" and len(kind[1]) == 2:
            wanted, kinds, given = PAIR, (kind[1][1], kind[1][0]), (kind[1][1], kind[1][0])
        else:
            inner = tuple(self.kind(free, 1) for _ in range(self.rng.randrange(3)))
            wanted, kinds, given = ("to", 0, inner, kind), (), inner
        called = self.term(wanted, free, names, half)
        terms = self.several(given, free, names, half)
        return None if called is None or terms is None else ("call", called, kinds, terms)

    def match(self, kind, free, names, half):
        if self.rng.random() < 0.5:
            one = unfolded(LIST)
            asked = self.term(LIST, free, names, half)
            asked = None if asked is None else ("unfold", asked)
        else:
            one = ("one", tuple(self.kind(free, 1) for _ in range(1 + self.rng.randrange(3))))
            asked = self.term(one, free, names, half)
        bodies = tuple(self.term(kind, free, names + (inner,), half) for inner in one[1])
        return None if asked is None or None in bodies else ("match", asked, bodies)

    def program(self, fuel=25):
        term = None
        while term is None:
            term = self.term(INT, 0, (), fuel)
        return term


def terms_in(term, ahead=()):
    """The list of (place, term, how many names and kind variables are bound around it) of all terms in a term."""
    out = [(ahead, term)]
    word = term[0]
    slots = {
        "sum": [(2,), (3,)], "when": [(1,), (2,), (3,)], "let": [(1,), (2,)], "fun": [(4,)], "part": [(1,)], "tag": [(3,)],
        "cell": [(1,)], "get": [(1,)], "set": [(1,), (2,)], "fold": [(2,)], "unfold": [(1,)], "hide": [(2,)],
        "open": [(1,), (2,)], "say": [(1,)],
    }.get(word, [])
    if word == "call":
        slots = [(1,)] + [(3, i) for i in range(len(term[3]))]
    if word == "row":
        slots = [(1, i) for i in range(len(term[1]))]
    if word == "match":
        slots = [(1,)] + [(2, i) for i in range(len(term[2]))]
    for slot in slots:
        inner = term
        for index in slot:
            inner = inner[index]
        out.extend(terms_in(inner, ahead + slot))
    return out


def with_part(term, place, part):
    if not place:
        return part
    return term[:place[0]] + (with_part(term[place[0]], place[1:], part),) + term[place[0] + 1:]
