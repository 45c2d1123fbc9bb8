"""Kinds found by plain substitution on tuples: slow, and written apart from the package."""


class NaiveError(Exception):
    """("clash", p, q), ("many",) or ("unfit", place)."""


class Naive:
    def __init__(self, program):
        self.datas = {data[0]: data for data in program[0]}
        self.of_option = {}
        for data in program[0]:
            for index, (option, kinds) in enumerate(data[2]):
                self.of_option[option] = (data, index)
        self.put = {}
        self.many = 0
        self.kinds = {}
        self.funs = {}
        self.uses = {}

    def fresh(self):
        self.many += 1
        return ("open", self.many - 1)

    def now(self, kind):
        if kind[0] == "open":
            return self.now(self.put[kind[1]]) if kind[1] in self.put else kind
        return tuple(self.now_member(member) for member in kind)

    def now_member(self, member):
        if isinstance(member, tuple) and member and isinstance(member[0], str):
            return self.now(member)
        if isinstance(member, tuple):
            return tuple(self.now_member(inner) for inner in member)
        return member

    def opens(self, kind, out):
        """The open kinds of a kind as it is now, as they first stand in it."""
        if isinstance(kind, tuple):
            if kind and kind[0] == "open":
                if kind not in out:
                    out.append(kind)
                return out
            for member in kind:
                self.opens(member, out)
        return out

    def same(self, one, other):
        one, other = self.now(one), self.now(other)
        if one == other:
            return True
        if one[0] == "open":
            if one in self.opens(other, []):
                return False
            self.put[one[1]] = other
            return True
        if other[0] == "open":
            return self.same(other, one)
        if one[0] != other[0] or len(one) != len(other):
            return False
        return all(self.same_member(a, b) for a, b in zip(one[1:], other[1:]))

    def same_member(self, one, other):
        if not isinstance(one, tuple) or not isinstance(other, tuple):
            return one == other
        if one and isinstance(one[0], str):
            return self.same(one, other)
        return len(one) == len(other) and all(self.same(a, b) for a, b in zip(one, other))

    def demand(self, one, other, p, q):
        if not self.same(one, other):
            raise NaiveError("clash", p, q)

    def told(self, written, known):
        if written[0] == "word":
            if written[1] in known:
                return known[written[1]]
            return ("data", written[1], tuple(self.told(k, known) for k in written[2]))
        if written[0] == "fun":
            return ("fun", tuple(self.told(k, known) for k in written[1]), self.told(written[2], known))
        if written[0] == "row":
            return ("row", tuple(self.told(k, known) for k in written[1]))
        if written[0] == "cell":
            return ("cell", self.told(written[1], known))
        return written

    def go(self, term, place, scope):
        """scope: a list of (word, kind, variables or None), the nearest last."""
        kind = getattr(self, "go_" + term[0])(term, place, scope)
        self.kinds[place] = kind
        return kind

    def go_int(self, term, place, scope):
        return ("int",)

    def go_name(self, term, place, scope):
        for word, kind, own in reversed(scope):
            if word == term[1]:
                break
        if own is None:
            return kind
        new = [self.fresh() for _ in own]
        self.uses[place] = new
        return self.swap(self.now(kind), dict(zip(own, new)))

    def swap(self, kind, news):
        if isinstance(kind, tuple):
            if kind in news:
                return news[kind]
            return tuple(self.swap(member, news) for member in kind)
        return kind

    def go_sum(self, term, place, scope):
        first = self.go(term[2], place + (0,), scope)
        second = self.go(term[3], place + (1,), scope)
        self.demand(first, ("int",), place + (0,), place)
        self.demand(second, ("int",), place + (1,), place)
        return ("int",)

    def go_if(self, term, place, scope):
        a, b, c = [self.go(term[1 + i], place + (i,), scope) for i in range(3)]
        self.demand(a, ("int",), place + (0,), place)
        self.demand(c, b, place + (2,), place + (1,))
        return b

    def go_let(self, term, place, scope):
        a = self.go(term[2], place + (0,), scope)
        return self.go(term[3], place + (1,), scope + [(term[1], a, None)])

    def go_split(self, term, place, scope):
        a = self.go(term[2], place + (0,), scope)
        new = tuple(self.fresh() for _ in term[1])
        self.demand(a, ("row", new), place + (0,), place)
        return self.go(term[3], place + (1,), scope + [(w, k, None) for w, k in zip(term[1], new)])

    def go_fun(self, term, place, scope):
        words = tuple(self.fresh() for _ in term[2])
        kind = ("fun", words, self.fresh())
        inside = scope + [(term[1], kind, None)] + [(w, k, None) for w, k in zip(term[2], words)]
        body = self.go(term[3], place + (0,), inside)
        self.demand(body, kind[2], place + (0,), place)
        kind = self.now(kind)
        around = []
        for _, other, _ in scope:
            self.opens(self.now(other), around)
        own = [part for part in self.opens(kind, []) if part not in around]
        if len(own) > 8:
            raise NaiveError("many")
        variables = []
        for index, part in enumerate(own):
            variable = ("mine", place, index)
            self.put[part[1]] = variable
            variables.append(variable)
        self.funs[place] = (len(own), kind)
        return self.go(term[4], place + (1,), scope + [(term[1], kind, variables)])

    def go_fn(self, term, place, scope):
        words = tuple(self.fresh() for _ in term[1])
        body = self.go(term[2], place + (0,), scope + [(w, k, None) for w, k in zip(term[1], words)])
        self.funs[place] = (0, ("fun", words, body))
        return ("fun", words, body)

    def go_call(self, term, place, scope):
        f = self.go(term[1], place + (0,), scope)
        kinds = tuple(self.go(t, place + (i + 1,), scope) for i, t in enumerate(term[2]))
        new = self.fresh()
        self.demand(f, ("fun", kinds, new), place + (0,), place)
        return new

    def go_row(self, term, place, scope):
        return ("row", tuple(self.go(t, place + (i,), scope) for i, t in enumerate(term[1])))

    def go_make(self, term, place, scope):
        kinds = [self.go(t, place + (i,), scope) for i, t in enumerate(term[2])]
        data, index = self.of_option[term[1]]
        new = tuple(self.fresh() for _ in data[1])
        for i, kind in enumerate(kinds):
            self.demand(kind, self.told(data[2][index][1][i], dict(zip(data[1], new))), place + (i,), place)
        return ("data", data[0], new)

    def go_match(self, term, place, scope):
        a = self.go(term[1], place + (0,), scope)
        data, _ = self.of_option[term[2][0][0]]
        new = tuple(self.fresh() for _ in data[1])
        self.demand(a, ("data", data[0], new), place + (0,), place)
        first = None
        for i, (option, words, inner) in enumerate(term[2]):
            told = [self.told(k, dict(zip(data[1], new))) for k in data[2][i][1]]
            kind = self.go(inner, place + (i + 1,), scope + [(w, k, None) for w, k in zip(words, told)])
            if first is None:
                first = kind
            else:
                self.demand(kind, first, place + (i + 1,), place + (1,))
        return first

    def go_cell(self, term, place, scope):
        return ("cell", self.go(term[1], place + (0,), scope))

    def go_get(self, term, place, scope):
        a = self.go(term[1], place + (0,), scope)
        new = self.fresh()
        self.demand(a, ("cell", new), place + (0,), place)
        return new

    def go_set(self, term, place, scope):
        a = self.go(term[1], place + (0,), scope)
        b = self.go(term[2], place + (1,), scope)
        self.demand(a, ("cell", b), place + (0,), place + (1,))
        return ("row", ())

    def go_say(self, term, place, scope):
        self.demand(self.go(term[1], place + (0,), scope), ("int",), place + (0,), place)
        return ("row", ())

    def go_then(self, term, place, scope):
        self.demand(self.go(term[1], place + (0,), scope), ("row", ()), place + (0,), place)
        return self.go(term[2], place + (1,), scope)

    def base(self, place):
        """How many variables the functions have in whose bodies a place is."""
        return sum(many for other, (many, _) in self.funs.items() if place[:len(other) + 1] == other + (0,))

    def last(self, kind, numbers):
        kind = self.now(kind)
        if isinstance(kind, tuple) and kind and kind[0] == "open":
            return ("open", numbers.setdefault(kind, len(numbers)))
        if isinstance(kind, tuple) and kind and kind[0] == "mine":
            return ("free", self.base(kind[1]) + kind[2])
        return self.last_member(kind, numbers)

    def last_member(self, value, numbers):
        if isinstance(value, tuple) and value and value[0] in ("open", "mine"):
            return self.last(value, numbers)
        if isinstance(value, tuple):
            return tuple(self.last_member(member, numbers) for member in value)
        return value


def naive_found(program):
    """The finding, without regard to Unfit; NaiveError for Clash and TooMany(8)."""
    naive = Naive(program)
    naive.demand(naive.go(program[1], (), []), ("int",), (), ())
    numbers = {}
    places = tuple((place, naive.last(naive.kinds[place], numbers)) for place in sorted(naive.kinds))
    funs = []
    for place in sorted(naive.funs):
        many, kind = naive.funs[place]
        kind = naive.last(kind, numbers)
        funs.append((place, many, kind[1], kind[2]))
    uses = tuple((place, tuple(naive.last(kind, numbers) for kind in naive.uses[place])) for place in sorted(naive.uses))
    return (places, tuple(funs), uses)
