"""Passes over core programs, which make them smaller and their runs no longer."""

from kindscarried.core import Change, changed_term, raised
from kindscarried.core_looker import core_judged
from kindscarried.core_parts import is_thing, size_of, times_named
from kindscarried.errors import IllKinded
from kindscarried.integers import check_count, summed

MOST_ROUNDS = 8
INLINED_COUNT = 12


def folded(program):
    """The program with what is known of its sums, whens, parts, matches and unfolds done."""
    _check_program(program)
    return changed_term(program, Folding(), 0, 0)


def inlined(program, count):
    """The program with things of at most so many terms, and the bodies of functions, where they are read once."""
    _check_program(program)
    check_count(count)
    return changed_term(program, Inlining(count), 0, 0)


def pruned(program):
    """The program without the things that nothing reads."""
    _check_program(program)
    return changed_term(program, Pruning(), 0, 0)


def optimised(program):
    """The program behind rounds of all passes, until a round changes nothing, but at most 8."""
    _check_program(program)
    for _ in range(MOST_ROUNDS):
        before = program
        for change in (Folding(), Inlining(INLINED_COUNT), Pruning()):
            program = changed_term(program, change, 0, 0)
        if program == before:
            break
    return program


def _check_program(program):
    place = core_judged(program)
    if place is not None:
        raise IllKinded(place)


class Folding(Change):
    """What folded does with a term."""

    def told(self, term, names, kinds):
        word = term[0]
        if word == "sum" and term[2][0] == "int" and term[3][0] == "int":
            return ("int", summed(term[1], term[2][1], term[3][1]))
        if word == "when" and term[1][0] == "int":
            return term[2] if term[1][1] == 0 else term[3]
        if word == "part" and term[1][0] == "row" and is_thing(term[1]):
            return term[1][1][term[2]]
        if word == "match" and term[1][0] == "tag" and is_thing(term[1]):
            _, index, _, inside = term[1]
            return ("let", inside, term[2][index])
        if word == "unfold" and term[1][0] == "fold":
            return term[1][2]
        return term


class Inlining(Change):
    """What inlined does with a term."""

    def __init__(self, count):
        self.count = count

    def told(self, term, names, kinds):
        if term[0] == "let":
            _, thing, body = term
            if is_thing(thing) and size_of(thing) <= self.count and _may_go(thing, body, names):
                return _with_things(body, (thing,), names, kinds)
        if term[0] == "call" and term[1][0] == "fun":
            _, many, _, _, body = term[1]
            given = (term[1],) + term[3]
            if many == 0 and times_named(body, names) == 0 and _may_all_go(term[3], body, names + 1):
                return _with_things(body, given, names, kinds)
        return term


def _may_go(thing, body, number):
    """Whether a thing may stand in the places of the name with this number."""
    return thing[0] in ("int", "name") or times_named(body, number) <= 1


def _may_all_go(terms, body, first):
    """Whether these terms are things that may stand in the places of the names from the first one on."""
    rows = list(enumerate(terms))
    return all([is_thing(term) and _may_go(term, body, first + index) for index, term in rows])


class Pruning(Change):
    """What pruned does with a term."""

    def told(self, term, names, kinds):
        if term[0] == "let" and is_thing(term[1]) and times_named(term[2], names) == 0:
            return _with_things(term[2], (term[1],), names, kinds)
        return term


class Settling(Change):
    """Things come in the places of the names that bind them, which are gone.

    The first of these names has the number first; so many kind variables, kinds, are in
    scope where the things stand.
    """

    def __init__(self, things, first, kinds):
        self.things = things
        self.first = first
        self.kinds = kinds

    def name_told(self, number, names, kinds):
        if number < self.first:
            return ("name", number)
        if number >= self.first + len(self.things):
            return ("name", number - len(self.things))
        # What the thing itself binds comes behind what is bound between.
        return raised(self.things[number - self.first], names, kinds, self.first, self.kinds)


def _with_things(body, things, names, kinds):
    """The body, in the scope of so many names and then one for each thing, with the things in their places."""
    return changed_term(body, Settling(things, names, kinds), 0, 0)
