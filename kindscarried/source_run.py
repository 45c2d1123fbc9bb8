"""Runs of source programs."""

from kindscarried.finding import found
from kindscarried.integers import check_count, summed
from kindscarried.stack import Stack

NOTHING = ()


class Function:
    """What a fun or fn is worth: its words, its body, the worths of the words around."""

    def __init__(self, words, body, scope):
        self.words = words
        self.body = body
        self.scope = scope


def _want(stack, term, scope):
    stack.tasks.append((term, scope, False))


def _outcome(stack, program):
    """The outcome, told task by task.

    A task is a tuple (term, scope, truth): whether what the term evaluates first
    is done. A worth is an integer, a Function, a tuple of worths, a pair (option,
    worths), or, of a cell, a list of the one worth that it has.
    """
    _want(stack, program, {})
    while stack.tasks:
        term, scope, ready = stack.tasks.pop()
        if not ready:
            stack.tasks.append((term, scope, True))
            for inner in reversed(_first_terms(term)):
                _want(stack, inner, scope)
        elif term[0] == "call" and stack.beats == 0:
            return stack.spent()
        else:
            finish = FINISHES[term[0]]
            finish(stack, term, scope)
    return stack.ended(stack.take_last())


def _first_terms(term):
    """What a term evaluates itself, from left to right."""
    word = term[0]
    if word in ("sum", "make"):
        return term[2:] if word == "sum" else term[2]
    if word in ("let", "split"):
        return (term[2],)
    if word in ("if", "match", "cell", "get", "say", "then"):
        return (term[1],)
    if word == "call":
        return (term[1],) + term[2]
    if word == "set":
        return term[1:]
    return term[1] if word == "row" else ()


def _with_words(scope, words, worths):
    inside = dict(scope)
    for word, worth in zip(words, worths):
        inside[word] = worth
    return inside


def _finish_int(stack, term, scope):
    stack.put(term[1])


def _finish_name(stack, term, scope):
    stack.put(scope[term[1]])


def _finish_sum(stack, term, scope):
    first, second = stack.take(2)
    stack.put(summed(term[1], first, second))


def _finish_if(stack, term, scope):
    asked = stack.take_last()
    _want(stack, term[3] if asked == 0 else term[2], scope)


def _finish_let(stack, term, scope):
    _want(stack, term[3], _with_words(scope, (term[1],), stack.take(1)))


def _finish_split(stack, term, scope):
    _want(stack, term[3], _with_words(scope, term[1], stack.take_last()))


def _finish_fun(stack, term, scope):
    inside = dict(scope)
    inside[term[1]] = Function(term[2], term[3], inside)
    _want(stack, term[4], inside)


def _finish_fn(stack, term, scope):
    stack.put(Function(term[1], term[2], scope))


def _finish_call(stack, term, scope):
    stack.beats = stack.beats - 1
    worths = stack.take(len(term[2]))
    function = stack.take_last()
    _want(stack, function.body, _with_words(function.scope, function.words, worths))


def _finish_row(stack, term, scope):
    stack.put(tuple(stack.take(len(term[1]))))


def _finish_make(stack, term, scope):
    stack.put((term[1], tuple(stack.take(len(term[2])))))


def _finish_match(stack, term, scope):
    made, worths = stack.take_last()
    for option, words, inner in term[2]:
        if option == made:
            _want(stack, inner, _with_words(scope, words, worths))


def _finish_cell(stack, term, scope):
    stack.put(stack.take(1))


def _finish_get(stack, term, scope):
    cell = stack.take_last()
    stack.put(cell[0])


def _finish_set(stack, term, scope):
    cell, worth = stack.take(2)
    cell[0] = worth
    stack.put(NOTHING)


def _finish_say(stack, term, scope):
    stack.letters.append(stack.take_last())
    stack.put(NOTHING)


def _finish_then(stack, term, scope):
    stack.take_last()
    _want(stack, term[2], scope)


FINISHES = {
    "int": _finish_int, "name": _finish_name, "sum": _finish_sum, "if": _finish_if,
    "let": _finish_let, "split": _finish_split, "fun": _finish_fun, "fn": _finish_fn,
    "call": _finish_call, "row": _finish_row, "make": _finish_make, "match": _finish_match,
    "cell": _finish_cell, "get": _finish_get, "set": _finish_set, "say": _finish_say,
    "then": _finish_then,
}


def run_source(program, beats):
    """The outcome of a source program."""
    found(program)
    check_count(beats)
    return _outcome(Stack(beats), program[1])
