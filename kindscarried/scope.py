"""What binds the words of a source program.

A binder is a tuple (sort, place, case, index): the place of the term that binds a
word, and which word of it (of which case). The sorts are "let", "split", "word"
(of a fun or fn), "case", and for the own word of a fun "own" inside its body and
"fun" behind it.
"""

from kindscarried.source import inner_terms


class Scopes:
    """Of a term: what binds its names, and what is bound around its funs.

    binders leads from the place of each name to its binder, None without one;
    around from the place of each fun to the list of the binders in scope there.
    """

    def __init__(self, term):
        self.binders = {}
        self.around = {}
        self.walk(term, (), {})

    def walk(self, term, place, scope):
        if term[0] == "name":
            self.binders[place] = scope.get(term[1])
        if term[0] == "fun":
            self.around[place] = list(scope.values())
        for index, inner in enumerate(inner_terms(term)):
            inside = dict(scope)
            inside.update(_bound_in(term, place, index))
            self.walk(inner, place + (index,), inside)


def _bound_in(term, place, index):
    """The dict from each word that a term binds in the inner term with this index."""
    word = term[0]
    if word == "let" and index == 1:
        return {term[1]: ("let", place, 0, 0)}
    if word == "split" and index == 1:
        return _numbered("split", place, 0, term[1])
    if word == "fun":
        return _bound_by_fun(term, place, index)
    if word == "fn":
        return _numbered("word", place, 0, term[1])
    if word == "match" and index > 0:
        return _numbered("case", place, index - 1, term[2][index - 1][1])
    return {}


def _bound_by_fun(term, place, index):
    """A function's words are nearer than its own word, which they may hide."""
    if index == 1:
        return {term[1]: ("fun", place, 0, 0)}
    bound = {term[1]: ("own", place, 0, 0)}
    bound.update(_numbered("word", place, 0, term[2]))
    return bound


def _numbered(sort, place, case, words):
    return {word: (sort, place, case, index) for index, word in enumerate(words)}


def variables_at(place, counts):
    """How many kind variables are in scope at a place of a program.

    counts is a dict from the place of each fun to how many variables it has.
    """
    around = [counts[place[:many]] for many in range(len(place))
              if place[many] == 0 and place[:many] in counts]
    return sum(around)
