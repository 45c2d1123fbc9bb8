"""The forms of kinds: of a tuple that begins with a word, the kinds right in it, None if it has not the form."""

MOST_VARIABLES = 10000


def form_of(word):
    """The form of a word, None of what is no word of kinds but "free" and "var"."""
    return FORMS.get(word)


def _is_many(value):
    return type(value) is int and 0 <= value <= MOST_VARIABLES


def _int(kind):
    return () if len(kind) == 1 else None


def _row(kind):
    return kind[1] if len(kind) == 2 and type(kind[1]) is tuple else None


def _one(kind):
    return _row(kind) or None


def _of_one(kind):
    return kind[1:] if len(kind) == 2 else None


def _rec(kind):
    """Neither a "free" nor a "var" stands right in a "rec"."""
    if len(kind) != 2:
        return None
    inside = kind[1]
    is_variable = type(inside) is tuple and inside[:1] in (("free",), ("var",))
    return None if is_variable else (inside,)


def _to(kind):
    if len(kind) != 4 or not _is_many(kind[1]) or type(kind[2]) is not tuple:
        return None
    return kind[2] + (kind[3],)


def _not(kind):
    return kind[2] if len(kind) == 3 and _is_many(kind[1]) and type(kind[2]) is tuple else None


def _room(kind):
    if len(kind) != 2 or type(kind[1]) is not tuple:
        return None
    inner = []
    for place in kind[1]:
        if type(place) is not tuple or len(place) != 2 or type(place[1]) is not bool:
            return None
        inner.append(place[0])
    return inner


def _code(kind):
    """Registers are rising integers from 0 on."""
    if len(kind) != 3 or not _is_many(kind[1]) or type(kind[2]) is not tuple:
        return None
    inner = []
    last = -1
    for reg in kind[2]:
        if type(reg) is not tuple or len(reg) != 2 or type(reg[0]) is not int or reg[0] <= last:
            return None
        last = reg[0]
        inner.append(reg[1])
    return inner


FORMS = {
    "int": _int, "row": _row, "one": _one, "cell": _of_one, "some": _of_one, "rec": _rec, "to": _to, "not": _not,
    "room": _room, "code": _code,
}
