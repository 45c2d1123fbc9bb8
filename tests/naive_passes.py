"""The passes over core, told plainly: names and kind variables are words of their own, so that nothing is counted."""

import itertools

SUMS = {"add": lambda a, b: a + b, "take": lambda a, b: a - b, "times": lambda a, b: a * b, "less": lambda a, b: int(a < b), "same": lambda a, b: int(a == b)}


def with_words(term):
    """The term with a word for each name and kind variable that something binds."""
    fresh = itertools.count()

    def kind(part, frees):
        if part[:1] == ("free",):
            return ("free", frees[part[1]])
        return tuple(kind(inner, frees) if type(inner) is tuple else inner for inner in part)

    def go(term, names, frees):
        def word():
            return "n%d" % next(fresh)

        sort = term[0]
        if sort == "int":
            return term
        if sort == "name":
            return ("name", names[term[1]])
        if sort == "sum":
            return ("sum", term[1], go(term[2], names, frees), go(term[3], names, frees))
        if sort == "when":
            return ("when",) + tuple(go(part, names, frees) for part in term[1:])
        if sort == "let":
            new = word()
            return ("let", go(term[1], names, frees), new, go(term[2], names + [new], frees))
        if sort == "fun":
            _, many, ks, l, body = term
            own = [word() for _ in range(1 + len(ks))]
            more = [word() for _ in range(many)]
            return ("fun", more, tuple(kind(k, frees) for k in ks), kind(l, frees), own, go(body, names + own, frees + more))
        if sort == "call":
            return ("call", go(term[1], names, frees), tuple(kind(k, frees) for k in term[2]), tuple(go(part, names, frees) for part in term[3]))
        if sort == "row":
            return ("row", tuple(go(part, names, frees) for part in term[1]))
        if sort == "part":
            return ("part", go(term[1], names, frees), term[2])
        if sort == "tag":
            return ("tag", term[1], kind(term[2], frees), go(term[3], names, frees))
        if sort == "match":
            rows = []
            for body in term[2]:
                new = word()
                rows.append((new, go(body, names + [new], frees)))
            return ("match", go(term[1], names, frees), tuple(rows))
        if sort == "fold":
            return ("fold", kind(term[1], frees), go(term[2], names, frees))
        if sort == "hide":
            return ("hide", kind(term[1], frees), go(term[2], names, frees), kind(term[3], frees))
        if sort == "open":
            new, free = word(), word()
            return ("open", go(term[1], names, frees), free, new, go(term[2], names + [new], frees + [free]))
        return (sort,) + tuple(go(part, names, frees) for part in term[1:])

    return go(term, [], [])


def counted(term):
    """The term with words counted again."""
    def kind(part, frees):
        if part[:1] == ("free",):
            return ("free", frees.index(part[1]))
        return tuple(kind(inner, frees) if type(inner) is tuple else inner for inner in part)

    def go(term, names, frees):
        sort = term[0]
        if sort == "int":
            return term
        if sort == "name":
            return ("name", names.index(term[1]))
        if sort == "let":
            return ("let", go(term[1], names, frees), go(term[3], names + [term[2]], frees))
        if sort == "fun":
            _, more, ks, l, own, body = term
            return ("fun", len(more), tuple(kind(k, frees) for k in ks), kind(l, frees), go(body, names + own, frees + more))
        if sort == "sum":
            return ("sum", term[1], go(term[2], names, frees), go(term[3], names, frees))
        if sort == "call":
            return ("call", go(term[1], names, frees), tuple(kind(k, frees) for k in term[2]), tuple(go(part, names, frees) for part in term[3]))
        if sort == "row":
            return ("row", tuple(go(part, names, frees) for part in term[1]))
        if sort == "part":
            return ("part", go(term[1], names, frees), term[2])
        if sort == "tag":
            return ("tag", term[1], kind(term[2], frees), go(term[3], names, frees))
        if sort == "match":
            return ("match", go(term[1], names, frees), tuple(go(body, names + [new], frees) for new, body in term[2]))
        if sort == "fold":
            return ("fold", kind(term[1], frees), go(term[2], names, frees))
        if sort == "hide":
            return ("hide", kind(term[1], frees), go(term[2], names, frees), kind(term[3], frees))
        if sort == "open":
            return ("open", go(term[1], names, frees), go(term[4], names + [term[3]], frees + [term[2]]))
        return (sort,) + tuple(go(part, names, frees) for part in term[1:])

    return go(term, [], [])


def parts(term):
    """The terms right in a term with words."""
    sort = term[0]
    if sort in ("int", "name"):
        return []
    if sort == "sum":
        return list(term[2:])
    if sort == "let":
        return [term[1], term[3]]
    if sort == "fun":
        return [term[5]]
    if sort == "call":
        return [term[1]] + list(term[3])
    if sort == "row":
        return list(term[1])
    if sort == "part":
        return [term[1]]
    if sort in ("tag",):
        return [term[3]]
    if sort == "match":
        return [term[1]] + [body for _, body in term[2]]
    if sort in ("fold", "hide"):
        return [term[2]]
    if sort == "open":
        return [term[1], term[4]]
    return list(term[1:])


def rebuilt(term, change):
    """The term with change of each term right in it."""
    sort = term[0]
    if sort in ("int", "name"):
        return term
    if sort == "sum":
        return term[:2] + (change(term[2]), change(term[3]))
    if sort == "let":
        return ("let", change(term[1]), term[2], change(term[3]))
    if sort == "fun":
        return term[:5] + (change(term[5]),)
    if sort == "call":
        return ("call", change(term[1]), term[2], tuple(change(part) for part in term[3]))
    if sort == "row":
        return ("row", tuple(change(part) for part in term[1]))
    if sort == "part":
        return ("part", change(term[1]), term[2])
    if sort == "tag":
        return term[:3] + (change(term[3]),)
    if sort == "match":
        return ("match", change(term[1]), tuple((new, change(body)) for new, body in term[2]))
    if sort == "fold":
        return term[:2] + (change(term[2]),)
    if sort == "hide":
        return ("hide", term[1], change(term[2]), term[3])
    if sort == "open":
        return ("open", change(term[1]), term[2], term[3], change(term[4]))
    return (sort,) + tuple(change(part) for part in term[1:])


def size(term):
    return 1 + sum(size(part) for part in parts(term))


def uses(term, word):
    return int(term == ("name", word)) + sum(uses(part, word) for part in parts(term))


def thing(term):
    if term[0] in ("int", "name", "fun"):
        return True
    return term[0] in ("row", "tag", "fold", "hide") and all(thing(part) for part in parts(term))


def put(term, news):
    if term[0] == "name":
        return news.get(term[1], term)
    return rebuilt(term, lambda part: put(part, news))


def fold(term):
    sort = term[0]
    if sort == "sum" and term[2][0] == term[3][0] == "int":
        return ("int", (SUMS[term[1]](term[2][1], term[3][1]) + 2 ** 31) % 2 ** 32 - 2 ** 31)
    if sort == "when" and term[1][0] == "int":
        return term[2] if term[1][1] == 0 else term[3]
    if sort == "part" and term[1][0] == "row" and thing(term[1]):
        return term[1][1][term[2]]
    if sort == "match" and term[1][0] == "tag" and thing(term[1]):
        new, body = term[2][term[1][1]]
        return ("let", term[1][3], new, body)
    return term[1][2] if sort == "unfold" and term[1][0] == "fold" else term


def inline(count):
    def change(term):
        if term[0] == "let" and thing(term[1]) and size(term[1]) <= count:
            if uses(term[3], term[2]) <= 1 or term[1][0] in ("int", "name"):
                return put(term[3], {term[2]: term[1]})
        if term[0] == "call" and term[1][0] == "fun":
            _, more, _, _, own, body = term[1]
            plain = not more and not uses(body, own[0]) and all(thing(part) for part in term[3])
            if plain and all(part[0] in ("int", "name") or uses(body, word) <= 1 for word, part in zip(own[1:], term[3])):
                return put(body, dict(zip(own[1:], term[3])))
        return term
    return change


def prune(term):
    return term[3] if term[0] == "let" and thing(term[1]) and not uses(term[3], term[2]) else term


def passed(term, change):
    """A pass over a term: each term once, behind the terms in it."""
    def go(part):
        return change(rebuilt(part, go))

    return counted(go(with_words(term)))


def naive_optimised(term):
    for _ in range(8):
        before = term
        for change in (fold, inline(12), prune):
            term = passed(term, change)
        if term == before:
            break
    return term
