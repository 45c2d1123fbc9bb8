"""Source programs by chance, from a seed: well-kinded ones, and ones with a part put elsewhere."""

import random

A = ("word", "a", ())
B = ("word", "b", ())
DATAS = (
    ("list", ("a",), (("Nil", ()), ("Cons", (A, ("word", "list", (A,)))))),
    ("opt", ("a",), (("None", ()), ("Some", (A,)))),
    ("two", ("a", "b"), (("Two", (A, B)),)),
    ("rose", ("a",), (("Rose", (A, ("word", "list", (("word", "rose", (A,)),)))),)),
    ("tool", (), (("Use", (("fun", (("int",),), ("int",)), ("cell", ("int",)))), ("Keep", (("row", ()),)))),
)
INT = ("int",)
UNIT = ("row", ())


def told(written, known):
    if written[0] == "word":
        if written[1] in known:
            return known[written[1]]
        return ("data", written[1], tuple(told(kind, known) for kind in written[2]))
    if written[0] == "fun":
        return ("fun", tuple(told(kind, known) for kind in written[1]), told(written[2], known))
    if written[0] == "row":
        return ("row", tuple(told(kind, known) for kind in written[1]))
    if written[0] == "cell":
        return ("cell", told(written[1], known))
    return written


class Maker:
    def __init__(self, seed, words=("x", "y", "z", "f", "g", "h", "u", "v", "w", "p", "q")):
        self.rng = random.Random(seed)
        self.words = words

    def word(self):
        return self.rng.choice(self.words)

    def unlike(self, many):
        return tuple(self.rng.sample(self.words, many))

    def kind(self, depth=2):
        sort = self.rng.randrange(9) if depth else self.rng.randrange(4)
        if sort < 3:
            return INT
        if sort == 3:
            return UNIT
        if sort == 4:
            return ("row", tuple(self.kind(depth - 1) for _ in range(self.rng.choice((2, 2, 3)))))
        if sort == 5:
            return ("cell", self.kind(depth - 1))
        if sort == 6:
            return ("fun", tuple(self.kind(depth - 1) for _ in range(self.rng.randrange(3))), self.kind(depth - 1))
        data = self.rng.choice(DATAS)
        return ("data", data[0], tuple(self.kind(depth - 1) for _ in data[1]))

    def program(self, fuel=12):
        return (DATAS, self.term(INT, (), fuel))

    def names(self, kind, scope):
        seen = set()
        out = []
        for word, other in reversed(scope):
            if word not in seen:
                seen.add(word)
                if other == kind:
                    out.append(word)
        return out

    def functions(self, kind, scope):
        seen = set()
        out = []
        for word, other in reversed(scope):
            if word not in seen:
                seen.add(word)
                if other[0] == "fun" and other[2] == kind:
                    out.append((word, other))
                if other[0] == "same":
                    out.append((word, ("fun", (kind,), kind)))
                if other[0] == "first":
                    out.append((word, ("fun", (kind, INT), kind)))
        return out

    def term(self, kind, scope, fuel):
        names = self.names(kind, scope)
        if names and self.rng.random() < (0.8 if fuel <= 0 else 0.25):
            return ("name", self.rng.choice(names))
        if fuel <= 0:
            return self.plain(kind, scope, 0)
        roll = self.rng.random()
        if roll < 0.35:
            return self.plain(kind, scope, fuel)
        functions = self.functions(kind, scope)
        if functions and roll < 0.5:
            word, function = self.rng.choice(functions)
            parts = self.split_fuel(fuel - 1, len(function[1]) or 1)
            return ("call", ("name", word), tuple(self.term(k, scope, f) for k, f in zip(function[1], parts)))
        return self.around(kind, scope, fuel)

    def split_fuel(self, fuel, many):
        return [max(0, fuel // many - self.rng.randrange(2)) for _ in range(many)]

    def plain(self, kind, scope, fuel):
        """A term whose form goes with its kind."""
        if kind == INT:
            if fuel <= 0:
                return ("int", self.rng.choice((0, 1, 2, 3, -1, 2147483647, -2147483648)))
            word = self.rng.choice(("add", "take", "times", "less", "same"))
            left, right = self.split_fuel(fuel, 2)
            return ("sum", word, self.term(INT, scope, left), self.term(INT, scope, right))
        if kind[0] == "row":
            if kind == UNIT and fuel > 0 and self.rng.random() < 0.7:
                if self.rng.random() < 0.5:
                    return ("say", self.term(INT, scope, fuel - 1))
                inner = self.kind(1)
                return ("set", self.term(("cell", inner), scope, fuel // 2), self.term(inner, scope, fuel // 2))
            parts = self.split_fuel(fuel, len(kind[1]) or 1)
            return ("row", tuple(self.term(k, scope, f) for k, f in zip(kind[1], parts)))
        if kind[0] == "cell":
            return ("cell", self.term(kind[1], scope, fuel - 1))
        if kind[0] == "fun":
            words = self.unlike(len(kind[1]))
            return ("fn", words, self.term(kind[2], scope + tuple(zip(words, kind[1])), fuel - 1))
        data = [data for data in DATAS if data[0] == kind[1]][0]
        option, kinds = self.rng.choice(data[2]) if fuel > 0 else data[2][0]
        known = dict(zip(data[1], kind[2]))
        parts = self.split_fuel(fuel, len(kinds) or 1)
        return ("make", option, tuple(self.term(told(k, known), scope, f) for k, f in zip(kinds, parts)))

    def around(self, kind, scope, fuel):
        sort = self.rng.randrange(10)
        half = fuel // 2
        if sort == 0:
            return ("if", self.term(INT, scope, fuel // 3), self.term(kind, scope, fuel // 3),
                    self.term(kind, scope, fuel // 3))
        if sort == 1:
            word, inner = self.word(), self.kind()
            return ("let", word, self.term(inner, scope, half), self.term(kind, scope + ((word, inner),), half))
        if sort == 2:
            inner = tuple(self.kind(1) for _ in range(self.rng.choice((0, 2, 3))))
            words = self.unlike(len(inner))
            return ("split", words, self.term(("row", inner), scope, half),
                    self.term(kind, scope + tuple(zip(words, inner)), half))
        if sort in (3, 4):
            return self.function(kind, scope, half)
        if sort == 5:
            return ("then", self.term(UNIT, scope, half), self.term(kind, scope, half))
        if sort == 6:
            return ("get", self.term(("cell", kind), scope, fuel - 1))
        if sort == 7:
            inner = self.kind(1)
            word = self.word()
            return ("call", ("fn", (word,), self.term(kind, scope + ((word, inner),), half)),
                    (self.term(inner, scope, half),))
        return self.match(kind, scope, fuel)

    def function(self, kind, scope, half):
        own = self.word()
        sort = self.rng.randrange(4)
        if sort == 0:
            word = self.word()
            body = ("name", word)
            return ("fun", own, (word,), body, self.term(kind, scope + ((own, ("same",)),), half))
        if sort == 1:
            words = self.unlike(2)
            body = ("if", ("name", words[1]), ("name", words[0]), ("name", words[0]))
            return ("fun", own, words, body, self.term(kind, scope + ((own, ("first",)),), half))
        function = ("fun", tuple(self.kind(1) for _ in range(self.rng.randrange(3))), self.kind(1))
        words = self.unlike(len(function[1]))
        inside = scope + ((own, function),) + tuple(zip(words, function[1]))
        return ("fun", own, words, self.term(function[2], inside, half),
                self.term(kind, scope + ((own, function),), half))

    def match(self, kind, scope, fuel):
        data = self.rng.choice(DATAS)
        kinds = tuple(self.kind(1) for _ in data[1])
        known = dict(zip(data[1], kinds))
        asked = self.term(("data", data[0], kinds), scope, fuel // 3)
        cases = []
        for option, written in data[2]:
            words = self.unlike(len(written))
            inside = scope + tuple(zip(words, [told(k, known) for k in written]))
            cases.append((option, words, self.term(kind, inside, fuel // 3)))
        return ("match", asked, tuple(cases))


def inner_slots(term):
    """The paths of tuple indexes that lead to the inner terms of a term."""
    word = term[0]
    if word == "sum" or word == "let" or word == "split":
        return [(2,), (3,)]
    if word == "if":
        return [(1,), (2,), (3,)]
    if word == "fun":
        return [(3,), (4,)]
    if word == "fn":
        return [(2,)]
    if word == "call":
        return [(1,)] + [(2, i) for i in range(len(term[2]))]
    if word == "row":
        return [(1, i) for i in range(len(term[1]))]
    if word == "make":
        return [(2, i) for i in range(len(term[2]))]
    if word == "match":
        return [(1,)] + [(2, i, 2) for i in range(len(term[2]))]
    if word in ("cell", "get", "say"):
        return [(1,)]
    if word in ("set", "then"):
        return [(1,), (2,)]
    return []


def part_at(term, path):
    for index in path:
        term = term[index]
    return term


def with_part(term, path, part):
    if not path:
        return part
    return term[:path[0]] + (with_part(term[path[0]], path[1:], part),) + term[path[0] + 1:]


def paths(term, ahead=()):
    out = [ahead]
    for slot in inner_slots(part_at(term, ())):
        out.extend(paths(part_at(term, slot), ahead + slot))
    return out


def mixed(program, rng):
    """The program with one of its terms in the place of another one."""
    term = program[1]
    every = paths(term)
    part = part_at(term, rng.choice(every))
    return (program[0], with_part(term, rng.choice(every), part))
