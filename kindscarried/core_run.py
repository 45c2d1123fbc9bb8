"""Runs of core with a stack of their own."""

from kindscarried.core_looker import core_judged
from kindscarried.core_shapes import SLOTS, evaluated_terms
from kindscarried.errors import IllKinded
from kindscarried.integers import check_count, summed
from kindscarried.stack import Stack

NOTHING = ()
# Which member of a term, beside those within it, its run looks at.
MEMBERS = {"int": 1, "name": 1, "sum": 1, "part": 2, "tag": 1}


class Node:
    """A term made ready for the run.

    member is its number, index or word, if it has one; inner are the terms that it
    evaluates, the last one first, and bodies the other ones in it.
    """

    def __init__(self, word, member, inner, bodies):
        self.word = word
        self.member = member
        self.inner = inner
        self.bodies = bodies


class Function:
    """What a "fun" is worth: its body, and what the names around it are worth."""

    def __init__(self, body, scope):
        self.body = body
        self.scope = scope


def _node(term):
    word = term[0]
    inner = []
    for _, part in reversed(evaluated_terms(term)):
        inner.append(_node(part))
    bodies = []
    for slot, member in zip(SLOTS[word], term[1:]):
        if slot in ("branch", "body"):
            bodies.append(_node(member))
        elif slot == "bodies":
            for part in member:
                bodies.append(_node(part))
    return Node(word, term[MEMBERS[word]] if word in MEMBERS else None, inner, bodies)


def run_core(program, beats):
    """The outcome of a program of core."""
    place = core_judged(program)
    if place is not None:
        raise IllKinded(place)
    check_count(beats)
    return _outcome(Stack(beats), _node(program))


def _outcome(stack, program):
    """The outcome, told task by task.

    A task is a tuple (node, scope, truth): whether what the term evaluates is
    done. scope is the tuple of what the names are worth: integers, Functions,
    tuples of worths, tags as tuples (index, worth), cells as lists of one worth;
    folds and hides are worth what is in them.
    """
    tasks = stack.tasks
    tasks.append((program, (), False))
    while tasks:
        node, scope, ready = tasks.pop()
        if not ready and node.inner:
            tasks.append((node, scope, True))
            for inner in node.inner:
                tasks.append((inner, scope, False))
        elif node.word == "call" and stack.beats == 0:
            return stack.spent()
        else:
            finish = FINISHES[node.word]
            finish(stack, node, scope)
    return stack.ended(stack.take_last())


def _want(stack, node, scope):
    stack.tasks.append((node, scope, False))


def _finish_int(stack, node, scope):
    stack.put(node.member)


def _finish_name(stack, node, scope):
    stack.put(scope[node.member])


def _finish_sum(stack, node, scope):
    second = stack.take_last()
    first = stack.take_last()
    stack.put(summed(node.member, first, second))


def _finish_when(stack, node, scope):
    asked = stack.take_last()
    _want(stack, node.bodies[0 if asked == 0 else 1], scope)


def _finish_let(stack, node, scope):
    """Goes on with the body, its new name being worth what is done: so of an open, too."""
    _want(stack, node.bodies[0], scope + (stack.take_last(),))


def _finish_fun(stack, node, scope):
    stack.put(Function(node.bodies[0], scope))


def _finish_call(stack, node, scope):
    stack.beats = stack.beats - 1
    things = stack.take(len(node.inner))
    function = things[0]
    _want(stack, function.body, function.scope + tuple(things))


def _finish_row(stack, node, scope):
    stack.put(tuple(stack.take(len(node.inner))))


def _finish_part(stack, node, scope):
    row = stack.take_last()
    stack.put(row[node.member])


def _finish_tag(stack, node, scope):
    stack.put((node.member, stack.take_last()))


def _finish_match(stack, node, scope):
    index, worth = stack.take_last()
    _want(stack, node.bodies[index], scope + (worth,))


def _finish_cell(stack, node, scope):
    stack.put(stack.take(1))


def _finish_get(stack, node, scope):
    cell = stack.take_last()
    stack.put(cell[0])


def _finish_set(stack, node, scope):
    worth = stack.take_last()
    cell = stack.take_last()
    cell[0] = worth
    stack.put(NOTHING)


def _finish_alike(stack, node, scope):
    """A fold, unfold or hide is worth what is in it, which lies on the stack."""


def _finish_say(stack, node, scope):
    stack.letters.append(stack.take_last())
    stack.put(NOTHING)


FINISHES = {
    "int": _finish_int, "name": _finish_name, "sum": _finish_sum, "when": _finish_when, "let": _finish_let,
    "fun": _finish_fun, "call": _finish_call, "row": _finish_row, "part": _finish_part, "tag": _finish_tag,
    "match": _finish_match, "cell": _finish_cell, "get": _finish_get, "set": _finish_set,
    "fold": _finish_alike, "unfold": _finish_alike, "hide": _finish_alike, "open": _finish_let,
    "say": _finish_say,
}
