"""The kinds of the places of a source program, found by demands."""

from kindscarried.data_kinds import MOST_DEEP, MOST_NODES, carried_kind
from kindscarried.errors import Clash, TooMany, Unfit
from kindscarried.finding_checks import check_words
from kindscarried.kind_graph import Graph
from kindscarried.kinds import unfolded
from kindscarried.measures import keeps_within
from kindscarried.options import option_table
from kindscarried.scope import Scopes, variables_at
from kindscarried.source import check_source, inner_written, placed_terms

MOST_OWN = 8


class Finder:
    """What is known of the kinds of a program, while its terms are gone through.

    kinds leads from each place to a node of the graph, words from each binder to
    the node of its word's kind, owned from the place of each fun to the list of
    its own variables, functions from that of each fun and fn to the node of its
    function, uses from that of each name of a fun to the nodes put in.
    """

    def __init__(self, program, scopes):
        self.datas = program[0]
        self.by_option = option_table(program[0])
        self.scopes = scopes
        self.graph = Graph()
        self.kinds = {}
        self.words = {}
        self.owned = {}
        self.functions = {}
        self.uses = {}

    def go_through(self, term, place):
        """Goes through a term, and tells the node of its kind."""
        rule = RULES[term[0]]
        node = rule(self, term, place)
        self.kinds[place] = node
        return node

    def go_through_all(self, terms, place, start):
        """Goes through inner terms, the first of which has the index start."""
        return [self.go_through(term, place + (start + index,)) for index, term in enumerate(terms)]

    def demand(self, node, wanted, place, other_place):
        if not self.graph.agree(node, wanted):
            raise Clash((place, other_place))

    def demand_int(self, node, place, other_place):
        self.demand(node, self.graph.made("int", ()), place, other_place)

    def bind(self, sort, place, case, nodes):
        """The words of a term, or of one of its cases, have these kinds."""
        for index, node in enumerate(nodes):
            self.words[(sort, place, case, index)] = node

    def open_kinds(self, many):
        return [self.graph.open_kind() for _ in range(many)]

    def data_kind(self, word, nodes):
        return self.graph.new_node(("data", word), nodes)

    def told_kinds(self, data, index, nodes):
        """The kinds told by the option with this index, for these of the parameters."""
        known = dict(zip(data[1], nodes))
        return [self.told_kind(kind, known) for kind in data[2][index][1]]

    def told_kind(self, kind, known):
        """The node of a written kind, known being those of the data's parameters."""
        if kind[0] == "word" and kind[1] in known:
            return known[kind[1]]
        inner = [self.told_kind(part, known) for part in inner_written(kind)]
        return self.data_kind(kind[1], inner) if kind[0] == "word" else self.graph.made(kind[0], inner)

    def settle(self, function, place):
        """The open kinds of a function that no word around has become its variables."""
        around = [self.words[binder] for binder in self.scopes.around[place]]
        others = {root: True for root in self.graph.open_below(around)}
        own = [root for root in self.graph.open_below([function]) if root not in others]
        if len(own) > MOST_OWN:
            raise TooMany(MOST_OWN)
        for index, root in enumerate(own):
            self.graph.settle(root, (place, index))
        if self.is_great(function):
            raise Unfit(place)
        self.owned[place] = own

    def is_great(self, node):
        """Whether a kind, or its core kind, is too great."""
        parts, depth = self.graph.measured(node)
        if parts > MOST_NODES or depth > MOST_DEEP:
            return True
        return self.core_of(node) is None

    def core_of(self, node):
        """The core kind of a node, whose variables are told apart by nothing; None if too great."""
        try:
            return carried_kind(self.datas, self.graph.told(node, _any_leaf))
        except TooMany:
            return None

    def is_unfit(self, place):
        """Whether a kind at a place is too great."""
        nodes = [self.kinds[place]] + list(self.uses.get(place, ()))
        if place in self.functions:
            nodes.append(self.functions[place])
        if any([self.is_great(node) for node in nodes]):
            return True
        core = self.core_of(self.kinds[place])
        return core[0] == "rec" and not keeps_within(unfolded(core), MOST_NODES, 2 * MOST_DEEP)


def _any_leaf(root, label):
    return ("open", 0) if label is None else ("free", 0)


def _find_int(finder, term, place):
    return finder.graph.made("int", ())


def _find_name(finder, term, place):
    binder = finder.scopes.binders[place]
    node = finder.words[binder]
    if binder[0] != "fun":
        return node
    own = finder.owned[binder[1]]
    put_in = finder.open_kinds(len(own))
    finder.uses[place] = tuple(put_in)
    return finder.graph.copied(node, dict(zip(own, put_in)))


def _find_sum(finder, term, place):
    nodes = finder.go_through_all(term[2:], place, 0)
    for index, node in enumerate(nodes):
        finder.demand_int(node, place + (index,), place)
    return finder.graph.made("int", ())


def _find_if(finder, term, place):
    asked, other, chosen = finder.go_through_all(term[1:], place, 0)
    finder.demand_int(asked, place + (0,), place)
    finder.demand(chosen, other, place + (2,), place + (1,))
    return other


def _find_let(finder, term, place):
    finder.bind("let", place, 0, [finder.go_through(term[2], place + (0,))])
    return finder.go_through(term[3], place + (1,))


def _find_split(finder, term, place):
    whole = finder.go_through(term[2], place + (0,))
    nodes = finder.open_kinds(len(term[1]))
    finder.demand(whole, finder.graph.made("row", nodes), place + (0,), place)
    finder.bind("split", place, 0, nodes)
    return finder.go_through(term[3], place + (1,))


def _find_fun(finder, term, place):
    words = finder.open_kinds(len(term[2]))
    result = finder.graph.open_kind()
    function = finder.graph.made("fun", words + [result])
    finder.bind("word", place, 0, words)
    finder.bind("own", place, 0, [function])
    body = finder.go_through(term[3], place + (0,))
    finder.demand(body, result, place + (0,), place)
    finder.settle(function, place)
    finder.functions[place] = function
    finder.bind("fun", place, 0, [function])
    return finder.go_through(term[4], place + (1,))


def _find_fn(finder, term, place):
    words = finder.open_kinds(len(term[1]))
    finder.bind("word", place, 0, words)
    body = finder.go_through(term[2], place + (0,))
    function = finder.graph.made("fun", words + [body])
    finder.functions[place] = function
    return function


def _find_call(finder, term, place):
    called = finder.go_through(term[1], place + (0,))
    nodes = finder.go_through_all(term[2], place, 1)
    result = finder.graph.open_kind()
    finder.demand(called, finder.graph.made("fun", nodes + [result]), place + (0,), place)
    return result


def _find_row(finder, term, place):
    return finder.graph.made("row", finder.go_through_all(term[1], place, 0))


def _find_make(finder, term, place):
    nodes = finder.go_through_all(term[2], place, 0)
    data, index = finder.by_option[term[1]]
    kinds = finder.open_kinds(len(data[1]))
    wanted = finder.told_kinds(data, index, kinds)
    for at, node in enumerate(nodes):
        finder.demand(node, wanted[at], place + (at,), place)
    return finder.data_kind(data[0], kinds)


def _find_match(finder, term, place):
    asked = finder.go_through(term[1], place + (0,))
    data, _ = finder.by_option[term[2][0][0]]
    kinds = finder.open_kinds(len(data[1]))
    finder.demand(asked, finder.data_kind(data[0], kinds), place + (0,), place)
    nodes = []
    for index, case in enumerate(term[2]):
        finder.bind("case", place, index, finder.told_kinds(data, index, kinds))
        nodes.append(finder.go_through(case[2], place + (index + 1,)))
        if index > 0:
            finder.demand(nodes[index], nodes[0], place + (index + 1,), place + (1,))
    return nodes[0]


def _find_cell(finder, term, place):
    return finder.graph.made("cell", [finder.go_through(term[1], place + (0,))])


def _find_get(finder, term, place):
    cell = finder.go_through(term[1], place + (0,))
    result = finder.graph.open_kind()
    finder.demand(cell, finder.graph.made("cell", [result]), place + (0,), place)
    return result


def _find_set(finder, term, place):
    cell, value = finder.go_through_all(term[1:], place, 0)
    finder.demand(cell, finder.graph.made("cell", [value]), place + (0,), place + (1,))
    return finder.graph.made("row", ())


def _find_say(finder, term, place):
    finder.demand_int(finder.go_through(term[1], place + (0,)), place + (0,), place)
    return finder.graph.made("row", ())


def _find_then(finder, term, place):
    first = finder.go_through(term[1], place + (0,))
    finder.demand(first, finder.graph.made("row", ()), place + (0,), place)
    return finder.go_through(term[2], place + (1,))


RULES = {
    "int": _find_int, "name": _find_name, "sum": _find_sum, "if": _find_if, "let": _find_let,
    "split": _find_split, "fun": _find_fun, "fn": _find_fn, "call": _find_call, "row": _find_row,
    "make": _find_make, "match": _find_match, "cell": _find_cell, "get": _find_get,
    "set": _find_set, "say": _find_say, "then": _find_then,
}


class Leaves:
    """Tells the found kinds of nodes, open kinds numbered as they first stand."""

    def __init__(self, finder):
        self.graph = finder.graph
        self.counts = {place: len(own) for place, own in finder.owned.items()}
        self.numbers = {}

    def leaf(self, root, label):
        if label is None:
            return ("open", self.numbers.setdefault(root, len(self.numbers)))
        place, index = label[1]
        return ("free", variables_at(place, self.counts) + index)

    def told(self, node):
        return self.graph.told(node, self.leaf)

    def all_told(self, nodes):
        return tuple([self.told(node) for node in nodes])


def found(program):
    """The finding of a source program."""
    check_source(program)
    scopes = Scopes(program[1])
    check_words(program, scopes.binders)
    finder = Finder(program, scopes)
    finder.demand_int(finder.go_through(program[1], ()), (), ())
    places = [place for place, _ in placed_terms(program[1])]
    for place in places:
        if finder.is_unfit(place):
            raise Unfit(place)
    leaves = Leaves(finder)
    kinds = tuple([(place, leaves.told(finder.kinds[place])) for place in places])
    funs = tuple([_fun_row(finder, leaves, place) for place in places if place in finder.functions])
    uses = tuple([(place, leaves.all_told(finder.uses[place])) for place in places if place in finder.uses])
    return (kinds, funs, uses)


def _fun_row(finder, leaves, place):
    _, kinds, kind = leaves.told(finder.functions[place])
    return (place, len(finder.owned.get(place, ())), kinds, kind)
