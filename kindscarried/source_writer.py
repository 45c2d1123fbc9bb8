"""The pieces that tell a source program."""

# A tie is how tightly a term holds together, by what of the grammar tells it:
# 0 TERM, 1 PAIR, 2 SUM, 3 PRODUCT, 4 PREFIX, 5 CALL, 6 ATOM.
TERM = 0
PAIR = 1
SUM = 2
PREFIX = 4
CALL = 5

TIES = {
    "int": 6, "name": 6, "if": 0, "let": 0, "split": 0, "fun": 0, "fn": 0, "call": 5, "row": 6,
    "make": 6, "match": 6, "cell": 4, "get": 4, "say": 4, "set": 1, "then": 0,
}
# Of each sum: its sign, its own tie, those that its first and its second term need.
SUMS = {
    "add": ("+", 2, 2, 3),
    "take": ("-", 2, 2, 3),
    "times": ("*", 3, 3, 4),
    "less": ("<", 1, 2, 2),
    "same": ("=", 1, 2, 2),
}


def written_pieces(program):
    """The list of the pieces of a source program."""
    out = []
    for data in program[0]:
        _write_data(out, data)
    _write(out, program[1], TERM)
    return out


def _write_list(out, members, write):
    out.append("(")
    for index, member in enumerate(members):
        if index > 0:
            out.append(",")
        write(out, member)
    out.append(")")


def _write_word(out, word):
    out.append(word)


def _write_data(out, data):
    word, parameters, choices = data
    out.extend(["data", word])
    if parameters:
        _write_list(out, parameters, _write_word)
    sign = "="
    for option, kinds in choices:
        out.extend([sign, option])
        if kinds:
            _write_list(out, kinds, _write_kind)
        sign = "|"
    out.append(";")


def _write_kind(out, kind):
    if kind[0] == "int":
        out.append("int")
    elif kind[0] == "word":
        out.append(kind[1])
        if kind[2]:
            _write_list(out, kind[2], _write_kind)
    elif kind[0] == "fun":
        out.append("fn")
        _write_list(out, kind[1], _write_kind)
        _write_kind(out, kind[2])
    elif kind[0] == "row":
        _write_list(out, kind[1], _write_kind)
    else:
        out.append("cell")
        _write_kind(out, kind[1])


def _tie(term):
    return SUMS[term[1]][1] if term[0] == "sum" else TIES[term[0]]


def _write(out, term, needed):
    """Writes a term where one with at least this tie may stand."""
    write = WRITERS[term[0]]
    if _tie(term) < needed:
        _write_in_brackets(out, term)
    else:
        write(out, term)


def _write_in_brackets(out, term):
    out.append("(")
    _write(out, term, TERM)
    out.append(")")


def _write_member(out, term):
    _write(out, term, TERM)


def _write_int(out, term):
    if term[1] < 0:
        out.append("-")
    out.append(str(abs(term[1])))


def _write_name(out, term):
    out.append(term[1])


def _write_sum(out, term):
    sign, _, first, second = SUMS[term[1]]
    _write(out, term[2], first)
    out.append(sign)
    _write(out, term[3], second)


def _write_if(out, term):
    for piece, inner in zip(("if", "then", "else"), term[1:]):
        out.append(piece)
        _write(out, inner, TERM)


def _write_let(out, term):
    out.extend(["let", term[1], "="])
    _write_in(out, term)


def _write_in(out, term):
    """What a let, a split and a fun end with."""
    _write(out, term[-2], TERM)
    out.append("in")
    _write(out, term[-1], TERM)


def _write_split(out, term):
    out.append("let")
    _write_list(out, term[1], _write_word)
    out.append("=")
    _write_in(out, term)


def _write_fun(out, term):
    out.extend(["fun", term[1]])
    _write_list(out, term[2], _write_word)
    out.append("=")
    _write_in(out, term)


def _write_fn(out, term):
    out.append("fn")
    _write_list(out, term[1], _write_word)
    _write(out, term[2], TERM)


def _write_call(out, term):
    # Behind an option without terms a bracket would begin its list.
    if term[1][0] == "make" and not term[1][2]:
        _write_in_brackets(out, term[1])
    else:
        _write(out, term[1], CALL)
    _write_list(out, term[2], _write_member)


def _write_row(out, term):
    _write_list(out, term[1], _write_member)


def _write_make(out, term):
    out.append(term[1])
    if term[2]:
        _write_list(out, term[2], _write_member)


def _write_match(out, term):
    out.append("match")
    _write(out, term[1], TERM)
    sign = "{"
    for option, words, inner in term[2]:
        out.extend([sign, option])
        if words:
            _write_list(out, words, _write_word)
        out.append("->")
        _write(out, inner, TERM)
        sign = "|"
    out.append("}")


def _write_prefix(out, term):
    out.append(term[0])
    _write(out, term[1], PREFIX)


def _write_set(out, term):
    _write(out, term[1], SUM)
    out.append(":=")
    _write(out, term[2], SUM)


def _write_then(out, term):
    _write(out, term[1], PAIR)
    out.append(";")
    _write(out, term[2], TERM)


WRITERS = {
    "int": _write_int, "name": _write_name, "sum": _write_sum, "if": _write_if, "let": _write_let,
    "split": _write_split, "fun": _write_fun, "fn": _write_fn, "call": _write_call, "row": _write_row,
    "make": _write_make, "match": _write_match, "cell": _write_prefix, "get": _write_prefix,
    "say": _write_prefix, "set": _write_set, "then": _write_then,
}
