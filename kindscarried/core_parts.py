"""The terms in a core term."""

from kindscarried.core_shapes import SLOTS


def size_of(term):
    """The number of the terms in a term, itself too."""
    many = 0
    pending = [term]
    while pending:
        part = pending.pop()
        many = many + 1
        pending.extend(inner_terms(part))
    return many


def times_named(term, number):
    """How often the name with this number stands in a term."""
    many = 0
    pending = [term]
    while pending:
        part = pending.pop()
        if part == ("name", number):
            many = many + 1
        pending.extend(inner_terms(part))
    return many


def inner_terms(term):
    """The list of all terms right in a term, from left to right."""
    inner = []
    for slot, member in zip(SLOTS[term[0]], term[1:]):
        if slot in ("term", "branch", "body"):
            inner.append(member)
        elif slot in ("terms", "bodies"):
            inner.extend(list(member))
    return inner


def is_thing(term):
    """Whether a term is an int, a name, a fun, or a row, tag, fold or hide of such."""
    pending = [term]
    while pending:
        part = pending.pop()
        if part[0] in ("row", "tag", "fold", "hide"):
            pending.extend(inner_terms(part))
        elif part[0] not in ("int", "name", "fun"):
            return False
    return True
