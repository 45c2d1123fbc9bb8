"""Source programs: their form and their places."""

from kindscarried.errors import InvalidPart
from kindscarried.integers import SUM_WORDS, is_program_integer
from kindscarried.shapes import begins_with_word

KEYWORDS = ("cell", "data", "else", "fn", "fun", "get", "if", "in", "int", "let", "match", "say", "then")
SMALL_LETTERS = "abcdefghijklmnopqrstuvwxyz"
GREAT_LETTERS = "ABCDEFGHIJKLMNOPQRSTUVWXYZ"
DIGITS = "0123456789"

MOST_DATAS = 8
MOST_PARAMETERS = 4
MOST_OPTIONS = 6
MOST_MEMBERS = 6
MOST_KIND_DEPTH = 5
MOST_DEPTH = 20
MOST_PARTS = 200

# What stands behind the word of each term, member by member.
SLOTS = {
    "int": ("number",),
    "name": ("word",),
    "sum": ("sum word", "term", "term"),
    "if": ("term", "term", "term"),
    "let": ("word", "term", "term"),
    "split": ("parts", "term", "term"),
    "fun": ("word", "words", "term", "term"),
    "fn": ("words", "term"),
    "call": ("term", "terms"),
    "row": ("row terms",),
    "make": ("option", "terms"),
    "match": ("term", "cases"),
    "cell": ("term",),
    "get": ("term",),
    "set": ("term", "term"),
    "say": ("term",),
    "then": ("term", "term"),
}


def is_word(value):
    """Whether the value is a word of source programs."""
    return _is_name(value, SMALL_LETTERS) and value not in KEYWORDS


def is_option(value):
    return _is_name(value, GREAT_LETTERS)


def _is_name(value, first_letters):
    if type(value) is not str or not 1 <= len(value) <= 8 or value[0] not in first_letters:
        return False
    return all([sign in SMALL_LETTERS or sign in DIGITS for sign in value[1:]])


def is_source(value):
    """Whether any value is a source program."""
    if type(value) is not tuple or len(value) != 2:
        return False
    return _are_datas(value[0]) and _is_whole_term(value[1])


def check_source(program):
    """InvalidPart unless the value is a source program."""
    if not is_source(program):
        raise InvalidPart("no source program")


def _are_datas(value):
    if type(value) is not tuple or len(value) > MOST_DATAS:
        return False
    return all([_is_data(data) for data in value])


def _is_data(value):
    if type(value) is not tuple or len(value) != 3 or not is_word(value[0]):
        return False
    if not _are_words(value[1], MOST_PARAMETERS) or type(value[2]) is not tuple:
        return False
    if not 1 <= len(value[2]) <= MOST_OPTIONS:
        return False
    return all([_is_choice(choice) for choice in value[2]])


def _is_choice(value):
    """Whether the value is an option with its written kinds."""
    if type(value) is not tuple or len(value) != 2 or not is_option(value[0]):
        return False
    return _are_members(value[1]) and all([_is_written_kind(kind) for kind in value[1]])


def _are_words(value, most):
    return type(value) is tuple and len(value) <= most and all([is_word(word) for word in value])


def _are_members(value):
    return type(value) is tuple and len(value) <= MOST_MEMBERS


def _are_row_members(value):
    return _are_members(value) and len(value) != 1


def _is_written_kind(value):
    pending = [(value, 1)]
    while pending:
        kind, depth = pending.pop()
        if depth > MOST_KIND_DEPTH or not _has_kind_form(kind):
            return False
        for inner in inner_written(kind):
            pending.append((inner, depth + 1))
    return True


def _has_kind_form(value):
    """Whether the value is a written kind, whatever the kinds in it may be."""
    if not begins_with_word(value):
        return False
    word, many = value[0], len(value)
    if word == "int":
        return many == 1
    if word == "word":
        return many == 3 and is_word(value[1]) and _are_members(value[2])
    if word == "fun":
        return many == 3 and _are_members(value[1])
    if word == "row":
        return many == 2 and _are_row_members(value[1])
    return word == "cell" and many == 2


def inner_written(kind):
    """The tuple of the written kinds right in a written kind."""
    if kind[0] == "word":
        return kind[2]
    if kind[0] == "fun":
        return kind[1] + (kind[2],)
    if kind[0] == "row":
        return kind[1]
    if kind[0] == "cell":
        return (kind[1],)
    return ()


def is_written_deeper(kind, most):
    """Whether a written kind is nested more than so deep."""
    pending = [(kind, 1)]
    while pending:
        part, depth = pending.pop()
        if depth > most:
            return True
        for inner in inner_written(part):
            pending.append((inner, depth + 1))
    return False


def _is_whole_term(value):
    pending = [(value, 1)]
    parts = 0
    while pending:
        term, depth = pending.pop()
        if depth > MOST_DEPTH or not _has_term_form(term):
            return False
        parts = parts + 1 + own_words(term)
        if parts > MOST_PARTS:
            return False
        for inner, words in deepened_terms(term):
            pending.append((inner, depth + 1 + words))
    return True


def term_measures(whole):
    """How deep a term is nested, and how many parts it has in all.

    It goes without recursion: a text may tell terms nested some thousands deep.
    """
    pending = [(whole, 1)]
    deepest = 0
    parts = 0
    while pending:
        term, depth = pending.pop()
        deepest = max(deepest, depth)
        parts = parts + 1 + own_words(term)
        for inner, words in deepened_terms(term):
            pending.append((inner, depth + 1 + words))
    return (deepest, parts)


def _has_term_form(value):
    """Whether the value is a term, whatever the terms in it may be."""
    if not begins_with_word(value) or value[0] not in SLOTS:
        return False
    slots = SLOTS[value[0]]
    if len(value) != len(slots) + 1:
        return False
    return all([_fills_slot(slot, member) for slot, member in zip(slots, value[1:])])


def _fills_slot(slot, member):
    if slot == "term":
        return True
    if slot == "number":
        return is_program_integer(member)
    if slot == "word":
        return is_word(member)
    if slot == "option":
        return is_option(member)
    if slot == "sum word":
        return type(member) is str and member in SUM_WORDS
    if slot == "words":
        return _are_words(member, MOST_MEMBERS)
    if slot == "parts":
        return _are_words(member, MOST_MEMBERS) and len(member) != 1
    if slot == "row terms":
        return _are_row_members(member)
    if slot == "cases":
        return _are_members(member) and len(member) > 0 and all([_is_case(case) for case in member])
    return _are_members(member)


def _is_case(value):
    if type(value) is not tuple or len(value) != 3:
        return False
    return is_option(value[0]) and _are_words(value[1], MOST_MEMBERS)


def own_words(term):
    """How many words of a split, fun, fn or of cases stand in a term itself."""
    if term[0] in ("split", "fn"):
        return len(term[1])
    if term[0] == "fun":
        return len(term[2])
    if term[0] == "match":
        return sum([len(case[1]) for case in term[2]])
    return 0


def inner_terms(term):
    """The tuple of the inner terms of a term."""
    inner = []
    for slot, member in zip(SLOTS[term[0]], term[1:]):
        if slot == "term":
            inner.append(member)
        elif slot in ("terms", "row terms"):
            inner.extend(member)
        elif slot == "cases":
            inner.extend([case[2] for case in member])
    return tuple(inner)


def deepened_terms(term):
    """The inner terms, each with how many words make it count deeper."""
    inner = inner_terms(term)
    if term[0] == "split":
        return [(inner[0], 0), (inner[1], len(term[1]))]
    if term[0] == "match":
        return [(term[1], 0)] + [(case[2], len(case[1])) for case in term[2]]
    return [(part, 0) for part in inner]


def term_at(program, place):
    """The term at a place, None without one."""
    check_source(program)
    term = program[1]
    for index in place:
        inner = inner_terms(term)
        if not 0 <= index < len(inner):
            return None
        term = inner[index]
    return term


def places_of(program):
    """The ascending tuple of all places."""
    check_source(program)
    return tuple([place for place, _ in placed_terms(program[1])])


def placed_terms(whole):
    """The list of (place, term) of a term and all terms in it, places ascending."""
    rows = []
    pending = [((), whole)]
    while pending:
        place, term = pending.pop()
        rows.append((place, term))
        inner = inner_terms(term)
        for index in reversed(range(len(inner))):
            pending.append((place + (index,), inner[index]))
    return rows
