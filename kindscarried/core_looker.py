"""The looker of core: the kind of a term, or the place of the first fault."""

from kindscarried.core_shapes import SLOTS
from kindscarried.errors import IllKinded
from kindscarried.integers import SUM_WORDS, is_index, is_program_integer
from kindscarried.kinds import CORE_WORDS, is_kind, opened, unfolded
from kindscarried.measures import keeps_within
from kindscarried.shapes import begins_with_word

INT = ("int",)
NOTHING = ("row", ())
MOST_PARTS = 200
MOST_DEEP = 40
MOST_VARIABLES = 8


class Scope:
    """How many kind variables, and names of which kinds, are in scope; what is in the cells.

    kinds_told gets the kind of each term, by its place.
    """

    def __init__(self, free, names, spots, told):
        self.free = free
        self.names = names
        self.spots = spots
        self.kinds_told = told

    def greater(self, variables, kinds):
        return Scope(self.free + variables, self.names + tuple(kinds), self.spots, self.kinds_told)


def core_judged(program):
    """None if any value is a program of core, else the place of the first fault."""
    try:
        kinds_by_place(program)
    except IllKinded as fault:
        return fault.place
    return None


def core_kind(free, names, term, spots=()):
    """The kind of any value as a term; IllKinded with the place of the first fault."""
    return _kind_of(Scope(free, names, spots, {}), term, ())


def kinds_by_place(program):
    """The dict from the place of each term of a program to its kind; IllKinded of what is no program."""
    scope = Scope(0, (), (), {})
    if _kind_of(scope, program, ()) != INT:
        raise IllKinded(())
    return scope.kinds_told


def _kind_of(scope, term, place):
    if not _has_form(term, scope.free):
        raise IllKinded(place)
    rule = RULES[term[0]]
    kind = rule(scope, term, place)
    if kind is None or not _is_small(kind):
        raise IllKinded(place)
    scope.kinds_told[place] = kind
    return kind


def _is_small(kind):
    return keeps_within(kind, MOST_PARTS, MOST_DEEP)


def _has_form(value, free):
    """Whether the value is a term, whatever the terms in it may be."""
    if not begins_with_word(value) or value[0] not in SLOTS:
        return False
    slots = SLOTS[value[0]]
    if len(value) != len(slots) + 1:
        return False
    if not all([_fills_slot(slot, member, free) for slot, member in zip(slots, value[1:])]):
        return False
    return value[0] != "fun" or _is_written(("to",) + value[1:4], free)


def _is_written(value, free):
    """Whether the value is a kind that may be written in a term."""
    return is_kind(free, value, CORE_WORDS) and _is_small(value)


def _fills_slot(slot, member, free):
    if slot == "number":
        return is_program_integer(member)
    if slot == "index":
        return is_index(member)
    if slot == "sum word":
        return type(member) is str and member in SUM_WORDS
    if slot == "many":
        return is_index(member) and member <= MOST_VARIABLES
    if slot in ("terms", "bodies"):
        return type(member) is tuple
    if slot == "kind":
        return _is_written(member, free)
    if slot == "kinds":
        return type(member) is tuple and all([_is_written(kind, free) for kind in member])
    return True


def _kinds_of(scope, terms, place):
    """The kinds of the terms of a tuple at a place."""
    kinds = []
    for index, term in enumerate(terms):
        kinds.append(_kind_of(scope, term, place + (index,)))
    return tuple(kinds)


def _int_kind(scope, term, place):
    return INT


def _name_kind(scope, term, place):
    return scope.names[term[1]] if term[1] < len(scope.names) else None


def _spot_kind(scope, term, place):
    return ("cell", scope.spots[term[1]]) if term[1] < len(scope.spots) else None


def _sum_kind(scope, term, place):
    first = _kind_of(scope, term[2], place + (2,))
    second = _kind_of(scope, term[3], place + (3,))
    return INT if first == INT and second == INT else None


def _when_kind(scope, term, place):
    asked = _kind_of(scope, term[1], place + (1,))
    first = _kind_of(scope, term[2], place + (2,))
    second = _kind_of(scope, term[3], place + (3,))
    return first if asked == INT and first == second else None


def _let_kind(scope, term, place):
    kind = _kind_of(scope, term[1], place + (1,))
    return _kind_of(scope.greater(0, (kind,)), term[2], place + (2,))


def _fun_kind(scope, term, place):
    whole = ("to",) + term[1:4]
    own = [("free", scope.free + index) for index in range(term[1])]
    kinds, wanted = opened(whole, own)
    inside = scope.greater(term[1], (whole,) + kinds)
    return whole if _kind_of(inside, term[4], place + (4,)) == wanted else None


def _call_kind(scope, term, place):
    called = _kind_of(scope, term[1], place + (1,))
    kinds = _kinds_of(scope, term[3], place + (3,))
    if called[0] != "to" or called[1] != len(term[2]):
        return None
    wanted, told = opened(called, term[2])
    return told if wanted == kinds else None


def _row_kind(scope, term, place):
    return ("row", _kinds_of(scope, term[1], place + (1,)))


def _part_kind(scope, term, place):
    row = _kind_of(scope, term[1], place + (1,))
    return row[1][term[2]] if row[0] == "row" and term[2] < len(row[1]) else None


def _tag_kind(scope, term, place):
    kind = _kind_of(scope, term[3], place + (3,))
    one = term[2]
    holds = one[0] == "one" and term[1] < len(one[1]) and one[1][term[1]] == kind
    return one if holds else None


def _match_kind(scope, term, place):
    one = _kind_of(scope, term[1], place + (1,))
    if one[0] != "one" or len(one[1]) != len(term[2]):
        return None
    kinds = []
    for index, body in enumerate(term[2]):
        kinds.append(_kind_of(scope.greater(0, (one[1][index],)), body, place + (2, index)))
    return kinds[0] if all([kind == kinds[0] for kind in kinds]) else None


def _cell_kind(scope, term, place):
    return ("cell", _kind_of(scope, term[1], place + (1,)))


def _get_kind(scope, term, place):
    cell = _kind_of(scope, term[1], place + (1,))
    return cell[1] if cell[0] == "cell" else None


def _set_kind(scope, term, place):
    cell = _kind_of(scope, term[1], place + (1,))
    kind = _kind_of(scope, term[2], place + (2,))
    return NOTHING if cell == ("cell", kind) else None


def _fold_kind(scope, term, place):
    kind = _kind_of(scope, term[2], place + (2,))
    return term[1] if term[1][0] == "rec" and unfolded(term[1]) == kind else None


def _unfold_kind(scope, term, place):
    kind = _kind_of(scope, term[1], place + (1,))
    return unfolded(kind) if kind[0] == "rec" else None


def _hide_kind(scope, term, place):
    kind = _kind_of(scope, term[2], place + (2,))
    some = term[3]
    return some if some[0] == "some" and opened(some, (term[1],)) == kind else None


def _open_kind(scope, term, place):
    some = _kind_of(scope, term[1], place + (1,))
    if some[0] != "some":
        return None
    inside = scope.greater(1, (opened(some, (("free", scope.free),)),))
    kind = _kind_of(inside, term[2], place + (2,))
    # The kind of what is hidden must not get out by the kind of the body.
    return kind if is_kind(scope.free, kind, CORE_WORDS) else None


def _say_kind(scope, term, place):
    return NOTHING if _kind_of(scope, term[1], place + (1,)) == INT else None


RULES = {
    "int": _int_kind, "name": _name_kind, "sum": _sum_kind, "when": _when_kind, "let": _let_kind,
    "fun": _fun_kind, "call": _call_kind, "row": _row_kind, "part": _part_kind, "tag": _tag_kind,
    "match": _match_kind, "cell": _cell_kind, "get": _get_kind, "set": _set_kind,
    "fold": _fold_kind, "unfold": _unfold_kind, "hide": _hide_kind, "open": _open_kind,
    "say": _say_kind, "spot": _spot_kind,
}
