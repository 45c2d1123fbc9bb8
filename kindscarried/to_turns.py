"""From core to programs in turns."""

from kindscarried.core_looker import kinds_by_place
from kindscarried.errors import InvalidKind
from kindscarried.kinds import CORE_WORDS, as_it_is, is_kind_anywhere, remade, with_free, with_inner


def carried(kind):
    """The kind in turns of a kind of core: a function is handed what is to be done next, too."""
    if not is_kind_anywhere(kind, CORE_WORDS):
        raise InvalidKind("a kind of core is wanted")
    return _carried(kind)


def _carried(kind):
    return remade(kind, as_it_is, _carried_node)


def _carried_node(kind, inner):
    if kind[0] == "to":
        return ("not", kind[1], inner[:-1] + (("not", 0, (inner[-1],)),))
    return with_inner(kind, inner)


def to_turns(program):
    """A program in turns whose run is like that of the core program."""
    turner = Turner(kinds_by_place(program))
    turner.end(program, (), Scope((), ()), None)
    return turner.told()


class Body:
    """A body that is being made, from where so many names and kind variables are in scope."""

    def __init__(self, names, free):
        self.names = names
        self.free = free
        self.rows = []
        self.last = None

    def told(self):
        return (tuple(self.rows), self.last)


class Scope:
    """What the names and kind variables of core are in turns.

    things leads from the number of each name of core to a thing, free from that of
    each kind variable to another number: here no variable leaves the scope.
    """

    def __init__(self, things, free):
        self.things = things
        self.free = free

    def greater(self, things, free):
        return Scope(self.things + tuple(things), self.free + tuple(free))


class Turner:
    """Makes functions of the terms of one core program.

    kinds leads from the place of each term to its kind. functions is the list of
    (n, ks, Body), and body the Body at the end of which the next row comes: behind
    a call it is that of the function which is handed what the call gives.
    """

    def __init__(self, kinds):
        self.kinds = kinds
        self.body = Body(0, 0)
        self.functions = [(0, (), self.body)]

    def told(self):
        return tuple([(many, kinds, body.told()) for many, kinds, body in self.functions])

    def carried_in(self, scope, kind):
        """The kind in turns of a kind that stands in core in this scope."""
        return _carried(with_free(kind, lambda number: ("free", scope.free[number])))

    def bind(self, row):
        """The name that a row binds."""
        self.body.rows.append(row)
        self.body.names = self.body.names + 1
        return ("name", self.body.names - 1)

    def bind_empty(self, row):
        """The name of the empty row that a row gives in core; here it binds none."""
        self.body.rows.append(row)
        return self.bind(("row", ()))

    def make(self, many, kinds):
        """The Body of a new function; the name that it has here is the last one ahead of its arguments."""
        inside = Body(self.body.names + 1 + len(kinds), self.body.free + many)
        self.bind(("fun", len(self.functions)))
        self.functions.append((many, kinds, inside))
        return inside

    def make_next(self, place, scope):
        """The Body of a function that is handed what the term at the place gives, and its name."""
        inside = self.make(0, (self.carried_in(scope, self.kinds[place]),))
        return (inside, ("name", self.body.names - 1))

    def go_on_in(self, inside):
        """Comes to the body of what make_next made; the thing that it is handed."""
        self.body = inside
        return ("name", inside.names - 1)

    def value(self, term, place, scope):
        """The thing that a term gives, behind the rows and ends for it."""
        rule = VALUES[term[0]]
        return rule(self, term, place, scope)

    def value_at(self, term, at, place, scope):
        return self.value(term[at], place + (at,), scope)

    def values_at(self, term, at, place, scope):
        things = []
        for index, part in enumerate(term[at]):
            things.append(self.value(part, place + (at, index), scope))
        return tuple(things)

    def end(self, term, place, scope, then):
        """Ends the body with what a term gives: jumps with it to then, a thing, or halts if this is None."""
        word = term[0]
        if word in ENDS and (word != "call" or then is not None):
            rule = ENDS[word]
            rule(self, term, place, scope, then)
            return
        given = self.value(term, place, scope)
        self.body.last = ("halt", given) if then is None else ("jump", then, (), (given,))

    def inner_body(self, term, place, scope, then, bound):
        """A body in an end, which binds these names, made of a term."""
        around = self.body
        inside = Body(around.names + len(bound), around.free)
        self.body = inside
        self.end(term, place, scope.greater(bound, ()), then)
        self.body = around
        return inside.told()


def _int(turner, term, place, scope):
    return term


def _name(turner, term, place, scope):
    return scope.things[term[1]]


def _sum(turner, term, place, scope):
    first = turner.value_at(term, 2, place, scope)
    second = turner.value_at(term, 3, place, scope)
    return turner.bind(("sum", term[1], first, second))


def _choice(turner, term, place, scope):
    """A when or match some of whose bodies go on to the same function behind it."""
    asked = turner.value_at(term, 1, place, scope)
    inside, then = turner.make_next(place, scope)
    _end_choice(turner, term, place, scope, asked, then)
    return turner.go_on_in(inside)


def _end_choice(turner, term, place, scope, asked, then):
    if term[0] == "when":
        first = turner.inner_body(term[2], place + (2,), scope, then, ())
        second = turner.inner_body(term[3], place + (3,), scope, then, ())
        turner.body.last = ("when", asked, first, second)
        return
    bound = (("name", turner.body.names),)
    bodies = []
    for index, part in enumerate(term[2]):
        bodies.append(turner.inner_body(part, place + (2, index), scope, then, bound))
    turner.body.last = ("match", asked, tuple(bodies))


def _choice_at_end(turner, term, place, scope, then):
    _end_choice(turner, term, place, scope, turner.value_at(term, 1, place, scope), then)


def _inside_let(turner, term, place, scope):
    """The scope of the body of a let or open, behind the rows for what it names."""
    given = turner.value_at(term, 1, place, scope)
    if term[0] == "let":
        return scope.greater((given,), ())
    name = turner.bind(("open", given))
    turner.body.free = turner.body.free + 1
    return scope.greater((name,), (turner.body.free - 1,))


def _let(turner, term, place, scope):
    inside = _inside_let(turner, term, place, scope)
    return turner.value_at(term, 2, place, inside)


def _let_at_end(turner, term, place, scope, then):
    inside = _inside_let(turner, term, place, scope)
    turner.end(term[2], place + (2,), inside, then)


def _fun(turner, term, place, scope):
    _, many, kinds = turner.carried_in(scope, turner.kinds[place])
    around = turner.body
    inside = turner.make(many, kinds)
    first = around.names - 1
    things = [("name", first + index) for index in range(len(kinds))]
    own = [around.free + index for index in range(many)]
    turner.body = inside
    turner.end(term[4], place + (4,), scope.greater(things, own), ("name", first + len(kinds)))
    turner.body = around
    return ("name", first)


def _handed(turner, term, place, scope):
    """The thing that a call jumps to, its kinds in turns, the things that it is handed."""
    called = turner.value_at(term, 1, place, scope)
    things = turner.values_at(term, 3, place, scope)
    return (called, tuple([turner.carried_in(scope, kind) for kind in term[2]]), things)


def _call(turner, term, place, scope):
    called, kinds, things = _handed(turner, term, place, scope)
    around = turner.body
    inside, then = turner.make_next(place, scope)
    around.last = ("jump", called, kinds, things + (then,))
    return turner.go_on_in(inside)


def _call_at_end(turner, term, place, scope, then):
    called, kinds, things = _handed(turner, term, place, scope)
    turner.body.last = ("jump", called, kinds, things + (then,))


def _row(turner, term, place, scope):
    return turner.bind(("row", turner.values_at(term, 1, place, scope)))


def _part(turner, term, place, scope):
    return turner.bind(("part", turner.value_at(term, 1, place, scope), term[2]))


def _tag(turner, term, place, scope):
    kind = turner.carried_in(scope, term[2])
    return turner.bind(("tag", term[1], kind, turner.value_at(term, 3, place, scope)))


def _of_one(turner, term, place, scope):
    return turner.bind((term[0], turner.value_at(term, 1, place, scope)))


def _set(turner, term, place, scope):
    cell = turner.value_at(term, 1, place, scope)
    return turner.bind_empty(("set", cell, turner.value_at(term, 2, place, scope)))


def _fold(turner, term, place, scope):
    kind = turner.carried_in(scope, term[1])
    return turner.bind(("fold", kind, turner.value_at(term, 2, place, scope)))


def _hide(turner, term, place, scope):
    hidden = turner.carried_in(scope, term[1])
    kind = turner.carried_in(scope, term[3])
    return turner.bind(("hide", hidden, turner.value_at(term, 2, place, scope), kind))


def _say(turner, term, place, scope):
    return turner.bind_empty(("say", turner.value_at(term, 1, place, scope)))


VALUES = {
    "int": _int, "name": _name, "sum": _sum, "when": _choice, "let": _let, "fun": _fun, "call": _call,
    "row": _row, "part": _part, "tag": _tag, "match": _choice, "cell": _of_one, "get": _of_one, "set": _set,
    "fold": _fold, "unfold": _of_one, "hide": _hide, "open": _let, "say": _say,
}
ENDS = {
    "when": _choice_at_end, "match": _choice_at_end, "let": _let_at_end, "open": _let_at_end,
    "call": _call_at_end,
}
