"""Found kinds as tuples: their form, and what is put in them."""

from kindscarried.shapes import begins_with_word
from kindscarried.source import inner_written


def is_found_kind(value, free, by_word):
    """Whether any value is a found kind over these datas, with so many free variables."""
    pending = [value]
    while pending:
        kind = pending.pop()
        if not _has_form(kind, free, by_word):
            return False
        pending.extend(_inner(kind))
    return True


def are_found_kinds(value, many, free, by_word):
    """Whether the value is a tuple of so many found kinds."""
    if type(value) is not tuple or len(value) != many:
        return False
    return all([is_found_kind(kind, free, by_word) for kind in value])


def _has_form(value, free, by_word):
    if not begins_with_word(value):
        return False
    word, many = value[0], len(value)
    if word == "int":
        return many == 1
    if word == "row":
        return many == 2 and type(value[1]) is tuple
    if word == "cell":
        return many == 2
    if word == "fun":
        return many == 3 and type(value[1]) is tuple
    if word == "data":
        return many == 3 and _is_data(value[1], value[2], by_word)
    if many != 2 or type(value[1]) is not int or value[1] < 0:
        return False
    return word == "open" or (word == "free" and value[1] < free)


def _is_data(word, kinds, by_word):
    if type(word) is not str or type(kinds) is not tuple:
        return False
    return word in by_word and len(by_word[word][1]) == len(kinds)


def _inner(kind):
    if kind[0] == "fun":
        return kind[1] + (kind[2],)
    if kind[0] == "row":
        return kind[1]
    if kind[0] == "cell":
        return (kind[1],)
    if kind[0] == "data":
        return kind[2]
    return ()


def made_kind(word, data, inner):
    """The found kind with this word over others; data is the word of a data, and read of one alone."""
    if word == "int":
        return ("int",)
    if word == "fun":
        return ("fun", inner[:-1], inner[-1])
    if word == "cell":
        return ("cell", inner[0])
    if word == "data":
        return ("data", data, inner)
    return ("row", inner)


def put_in_found(kind, kinds):
    """The found kind with kinds[j] in the place of each ("free", j)."""
    if kind[0] == "free":
        return kinds[kind[1]]
    if kind[0] in ("int", "open"):
        return kind
    inner = tuple([put_in_found(part, kinds) for part in _inner(kind)])
    return made_kind(kind[0], kind[1], inner)


def told_kinds(data, index, kinds):
    """The found kinds told by an option of a data, its parameters being these kinds."""
    known = dict(zip(data[1], kinds))
    return tuple([_told_kind(kind, known) for kind in data[2][index][1]])


def _told_kind(kind, known):
    if kind[0] == "int":
        return kind
    if kind[0] == "word" and kind[1] in known:
        return known[kind[1]]
    inner = tuple([_told_kind(part, known) for part in inner_written(kind)])
    return made_kind("data" if kind[0] == "word" else kind[0], kind[1], inner)
