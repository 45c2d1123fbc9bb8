"""Runs of source programs."""

from kindscarried.finding import found
from kindscarried.integers import check_count, summed

NOTHING = ()


class Function:
    """What a fun or fn is worth: its words, its body, the worths of the words around."""

    def __init__(self, words, body, scope):
        self.words = words
        self.body = body
        self.scope = scope


class Runner:
    """What is still to be done lies on a stack, and the worths so far on another one.

    So calls within calls, however many, take no recursion. A task is a pair
    (term, scope) with a truth: whether what the term evaluates first is done. A
    worth is an integer, a Function, a tuple of worths, a pair (option, worths),
    or, of a cell, a list of the one worth that it has.
    """

    def __init__(self, beats):
        self.beats = beats
        self.letters = []
        self.tasks = []
        self.worths = []

    def want(self, term, scope):
        self.tasks.append((term, scope, False))

    def put(self, worth):
        self.worths.append(worth)

    def take(self, many):
        """The last worths, as a list, which are gone from the stack."""
        start = len(self.worths) - many
        worths = self.worths[start:]
        del self.worths[start:]
        return worths

    def take_last(self):
        return self.worths.pop()

    def begin(self, term, scope):
        """Puts what a term evaluates first on the stack, and the term behind it."""
        self.tasks.append((term, scope, True))
        for inner in reversed(_first_terms(term)):
            self.want(inner, scope)

    def outcome(self):
        while self.tasks:
            term, scope, ready = self.tasks.pop()
            if not ready:
                self.begin(term, scope)
            elif term[0] == "call" and self.beats == 0:
                return ("spent", tuple(self.letters))
            else:
                finish = FINISHES[term[0]]
                finish(self, term, scope)
        return ("done", self.worths[0], tuple(self.letters))


def _first_terms(term):
    """What a term evaluates itself, from left to right."""
    word = term[0]
    if word in ("sum", "make"):
        return term[2:] if word == "sum" else term[2]
    if word in ("let", "split"):
        return (term[2],)
    if word in ("if", "match", "cell", "get", "say", "then"):
        return (term[1],)
    if word == "call":
        return (term[1],) + term[2]
    if word == "set":
        return term[1:]
    return term[1] if word == "row" else ()


def _with_words(scope, words, worths):
    inside = dict(scope)
    for word, worth in zip(words, worths):
        inside[word] = worth
    return inside


def _finish_int(runner, term, scope):
    runner.put(term[1])


def _finish_name(runner, term, scope):
    runner.put(scope[term[1]])


def _finish_sum(runner, term, scope):
    first, second = runner.take(2)
    runner.put(summed(term[1], first, second))


def _finish_if(runner, term, scope):
    asked = runner.take_last()
    runner.want(term[3] if asked == 0 else term[2], scope)


def _finish_let(runner, term, scope):
    runner.want(term[3], _with_words(scope, (term[1],), runner.take(1)))


def _finish_split(runner, term, scope):
    runner.want(term[3], _with_words(scope, term[1], runner.take_last()))


def _finish_fun(runner, term, scope):
    inside = dict(scope)
    inside[term[1]] = Function(term[2], term[3], inside)
    runner.want(term[4], inside)


def _finish_fn(runner, term, scope):
    runner.put(Function(term[1], term[2], scope))


def _finish_call(runner, term, scope):
    runner.beats = runner.beats - 1
    worths = runner.take(len(term[2]))
    function = runner.take_last()
    runner.want(function.body, _with_words(function.scope, function.words, worths))


def _finish_row(runner, term, scope):
    runner.put(tuple(runner.take(len(term[1]))))


def _finish_make(runner, term, scope):
    runner.put((term[1], tuple(runner.take(len(term[2])))))


def _finish_match(runner, term, scope):
    made, worths = runner.take_last()
    for option, words, inner in term[2]:
        if option == made:
            runner.want(inner, _with_words(scope, words, worths))


def _finish_cell(runner, term, scope):
    runner.put(runner.take(1))


def _finish_get(runner, term, scope):
    cell = runner.take_last()
    runner.put(cell[0])


def _finish_set(runner, term, scope):
    cell, worth = runner.take(2)
    cell[0] = worth
    runner.put(NOTHING)


def _finish_say(runner, term, scope):
    runner.letters.append(runner.take_last())
    runner.put(NOTHING)


def _finish_then(runner, term, scope):
    runner.take_last()
    runner.want(term[2], scope)


FINISHES = {
    "int": _finish_int, "name": _finish_name, "sum": _finish_sum, "if": _finish_if,
    "let": _finish_let, "split": _finish_split, "fun": _finish_fun, "fn": _finish_fn,
    "call": _finish_call, "row": _finish_row, "make": _finish_make, "match": _finish_match,
    "cell": _finish_cell, "get": _finish_get, "set": _finish_set, "say": _finish_say,
    "then": _finish_then,
}


def run_source(program, beats):
    """The outcome of a source program."""
    found(program)
    check_count(beats)
    runner = Runner(beats)
    runner.want(program[1], {})
    return runner.outcome()
