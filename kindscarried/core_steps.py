"""Runs of core by steps."""

from kindscarried.core import put_in
from kindscarried.core_looker import core_judged
from kindscarried.core_machine import Machine
from kindscarried.core_shapes import DONE_WORDS, evaluated_terms
from kindscarried.errors import IllKinded, Stuck, TooMany
from kindscarried.integers import check_count, summed
from kindscarried.measures import keeps_within

NOTHING = ("row", ())
MOST_PARTS = 6000
MOST_DEEP = 100


def stepped(state):
    """The next state, None if the term is done."""
    term, cells, letters = state
    place = _next_place(term)
    if place is None:
        return None
    redex = _part_at(term, place)
    give = GIVES[redex[0]]
    told = give(redex, cells, letters)
    if told is None:
        raise Stuck(place)
    new, new_cells, new_letters = told
    next_term = _with_part(term, place, new)
    if not keeps_within(next_term, MOST_PARTS, MOST_DEEP):
        raise TooMany(MOST_PARTS)
    return (next_term, new_cells, new_letters)


def _next_place(term):
    """The place of the first term that is not done and evaluates only done ones."""
    for place, inner in evaluated_terms(term):
        below = _next_place(inner)
        if below is not None:
            return place + below
    return None if term[0] in DONE_WORDS else ()


def _part_at(whole, place):
    part = whole
    for index in place:
        part = part[index]
    return part


def _with_part(whole, place, new):
    """The tuple with another part at a place."""
    parts = [whole]
    for index in place:
        parts.append(parts[-1][index])
    part = new
    for at in reversed(range(len(place))):
        index = place[at]
        part = parts[at][:index] + (part,) + parts[at][index + 1:]
    return part


def _is_spot(term, cells):
    return term[0] == "spot" and term[1] < len(cells)


def _give_sum(term, cells, letters):
    _, word, first, second = term
    if first[0] != "int" or second[0] != "int":
        return None
    return (("int", summed(word, first[1], second[1])), cells, letters)


def _give_when(term, cells, letters):
    _, asked, first, second = term
    if asked[0] != "int":
        return None
    return (first if asked[1] == 0 else second, cells, letters)


def _give_let(term, cells, letters):
    return (put_in(term[2], (), (term[1],)), cells, letters)


def _give_call(term, cells, letters):
    _, called, kinds, things = term
    if called[0] != "fun" or called[1] != len(kinds) or len(called[2]) != len(things):
        return None
    return (put_in(called[4], kinds, (called,) + things), cells, letters)


def _give_part(term, cells, letters):
    _, row, index = term
    if row[0] != "row" or index >= len(row[1]):
        return None
    return (row[1][index], cells, letters)


def _give_match(term, cells, letters):
    _, tag, bodies = term
    if tag[0] != "tag" or tag[1] >= len(bodies):
        return None
    return (put_in(bodies[tag[1]], (), (tag[3],)), cells, letters)


def _give_cell(term, cells, letters):
    return (("spot", len(cells)), cells + (term[1],), letters)


def _give_get(term, cells, letters):
    if not _is_spot(term[1], cells):
        return None
    return (cells[term[1][1]], cells, letters)


def _give_set(term, cells, letters):
    _, spot, thing = term
    if not _is_spot(spot, cells):
        return None
    return (NOTHING, cells[:spot[1]] + (thing,) + cells[spot[1] + 1:], letters)


def _give_unfold(term, cells, letters):
    if term[1][0] != "fold":
        return None
    return (term[1][2], cells, letters)


def _give_open(term, cells, letters):
    _, hide, body = term
    if hide[0] != "hide":
        return None
    return (put_in(body, (hide[1],), (hide[2],)), cells, letters)


def _give_say(term, cells, letters):
    if term[1][0] != "int":
        return None
    return (NOTHING, cells, letters + (term[1][1],))


GIVES = {
    "sum": _give_sum, "when": _give_when, "let": _give_let, "call": _give_call, "part": _give_part,
    "match": _give_match, "cell": _give_cell, "get": _give_get, "set": _give_set,
    "unfold": _give_unfold, "open": _give_open, "say": _give_say,
}


def run_steps(program, beats):
    """The outcome of a program by steps, from no cells and letters."""
    place = core_judged(program)
    if place is not None:
        raise IllKinded(place)
    check_count(beats)
    return Machine(program, beats, MOST_PARTS, MOST_DEEP).outcome()
