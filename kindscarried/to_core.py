"""From source programs to core."""

from kindscarried.data_kinds import carried_kind
from kindscarried.finding import found
from kindscarried.kinds import shut, unfolded
from kindscarried.options import option_table
from kindscarried.scope import Scopes, variables_at


def to_core(program):
    """The core program of a source program."""
    finding = found(program)
    return Maker(program, finding).make(program[1], (), 0)


class Maker:
    """Makes core terms of the terms of one program.

    kinds, funs and uses lead from each place to what the finding tells there;
    numbers leads from each binder to the number of its word's name in core.
    """

    def __init__(self, program, finding):
        self.datas = program[0]
        self.by_option = option_table(program[0])
        self.binders = Scopes(program[1]).binders
        self.kinds = {row[0]: row[1] for row in finding[0]}
        self.funs = {row[0]: row[1:] for row in finding[1]}
        self.uses = {row[0]: row[1] for row in finding[2]}
        # An fn has no variables of its own, so it may stand here, too.
        self.counts = {row[0]: row[1] for row in finding[1]}
        self.numbers = {}

    def make(self, term, place, names):
        """The core term of the term at a place, ahead of which so many names are in scope."""
        rule = MAKES[term[0]]
        return rule(self, term, place, names)

    def make_all(self, terms, place, start, names):
        return tuple([self.make(term, place + (start + index,), names) for index, term in enumerate(terms)])

    def carried(self, kind):
        return carried_kind(self.datas, kind)

    def bind(self, sort, place, case, many, first):
        """The words of a term have names with numbers from the first one on."""
        for index in range(many):
            self.numbers[(sort, place, case, index)] = first + index

    def own_order(self, place):
        """The numbers of the own variables of the function at a place."""
        base = variables_at(place, self.counts)
        return tuple([base + index for index in range(self.counts[place])])

    def handed_kinds(self, place):
        """The kinds that a call of the name at a place hands on; () if it is of no fun."""
        sort = self.binders[place][0]
        binder = self.binders[place][1]
        if sort == "own":
            return tuple([("free", number) for number in self.own_order(binder)])
        if sort == "fun":
            return tuple([self.carried(kind) for kind in self.uses[place]])
        return ()


def _make_int(maker, term, place, names):
    return term


def _make_name(maker, term, place, names):
    """A name; one of a function with kind variables becomes a function without."""
    name = ("name", maker.numbers[maker.binders[place]])
    kinds = maker.handed_kinds(place)
    if not kinds:
        return name
    _, words, kind = maker.kinds[place]
    handed = tuple([("name", names + 1 + index) for index in range(len(words))])
    own = tuple([maker.carried(word) for word in words])
    return ("fun", 0, own, maker.carried(kind), ("call", name, kinds, handed))


def _make_call(maker, term, place, names):
    called = maker.make(term[1], place + (0,), names)
    kinds = ()
    if term[1][0] == "name":
        kinds = maker.handed_kinds(place + (0,))
        called = ("name", maker.numbers[maker.binders[place + (0,)]])
    return ("call", called, kinds, maker.make_all(term[2], place, 1, names))


def _make_sum(maker, term, place, names):
    return ("sum", term[1]) + maker.make_all(term[2:], place, 0, names)


def _make_if(maker, term, place, names):
    asked, other, chosen = maker.make_all(term[1:], place, 0, names)
    return ("when", asked, chosen, other)


def _make_let(maker, term, place, names):
    value = maker.make(term[2], place + (0,), names)
    maker.bind("let", place, 0, 1, names)
    return ("let", value, maker.make(term[3], place + (1,), names + 1))


def _with_parts(row, many, body):
    """Lets of the parts of the row with this number, around a body."""
    for index in reversed(range(many)):
        body = ("let", ("part", ("name", row), index), body)
    return body


def _make_split(maker, term, place, names):
    many = len(term[1])
    row = maker.make(term[2], place + (0,), names)
    maker.bind("split", place, 0, many, names + 1)
    body = maker.make(term[3], place + (1,), names + 1 + many)
    return ("let", row, _with_parts(names, many, body))


def _make_fun(maker, term, place, names):
    many = len(term[2])
    maker.bind("own", place, 0, 1, names)
    maker.bind("word", place, 0, many, names + 1)
    function = _function(maker, place, maker.make(term[3], place + (0,), names + 1 + many))
    maker.bind("fun", place, 0, 1, names)
    return ("let", function, maker.make(term[4], place + (1,), names + 1))


def _make_fn(maker, term, place, names):
    many = len(term[1])
    maker.bind("word", place, 0, many, names + 1)
    return _function(maker, place, maker.make(term[2], place + (0,), names + 1 + many))


def _function(maker, place, body):
    many, words, kind = maker.funs[place]
    order = maker.own_order(place)
    own = tuple([shut(maker.carried(word), order) for word in words])
    return ("fun", many, own, shut(maker.carried(kind), order), body)


def _make_row(maker, term, place, names):
    return ("row", maker.make_all(term[1], place, 0, names))


def _make_data(maker, term, place, names):
    kind = maker.carried(maker.kinds[place])
    _, index = maker.by_option[term[1]]
    row = ("row", maker.make_all(term[2], place, 0, names))
    return ("fold", kind, ("tag", index, unfolded(kind), row))


def _make_match(maker, term, place, names):
    asked = maker.make(term[1], place + (0,), names)
    bodies = []
    for case, (_, words, inner) in enumerate(term[2]):
        many = len(words)
        maker.bind("case", place, case, many, names + 1)
        body = maker.make(inner, place + (case + 1,), names + 1 + many)
        bodies.append(_with_parts(names, many, body))
    return ("match", ("unfold", asked), tuple(bodies))


def _make_alike(maker, term, place, names):
    return (term[0],) + maker.make_all(term[1:], place, 0, names)


def _make_then(maker, term, place, names):
    first = maker.make(term[1], place + (0,), names)
    return ("let", first, maker.make(term[2], place + (1,), names + 1))


MAKES = {
    "int": _make_int, "name": _make_name, "sum": _make_sum, "if": _make_if, "let": _make_let,
    "split": _make_split, "fun": _make_fun, "fn": _make_fn, "call": _make_call, "row": _make_row,
    "make": _make_data, "match": _make_match, "cell": _make_alike, "get": _make_alike,
    "set": _make_alike, "say": _make_alike, "then": _make_then,
}
