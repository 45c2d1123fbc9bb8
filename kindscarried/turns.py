"""Programs in turns: their form."""

from kindscarried.bodies import inner_bodies
from kindscarried.integers import SUM_WORDS, is_index, is_program_integer
from kindscarried.shapes import begins_with_word

# What stands behind the word of each row and end, member by member.
ROWS = {
    "sum": ("sum word", "thing", "thing"),
    "fun": ("index",),
    "row": ("things",),
    "part": ("thing", "index"),
    "tag": ("index", "kind", "thing"),
    "cell": ("thing",),
    "get": ("thing",),
    "set": ("thing", "thing"),
    "fold": ("kind", "thing"),
    "unfold": ("thing",),
    "hide": ("kind", "thing", "kind"),
    "open": ("thing",),
    "say": ("thing",),
}
ENDS = {
    "jump": ("thing", "kinds", "things"),
    "when": ("thing", "body", "body"),
    "match": ("thing", "bodies"),
    "halt": ("thing",),
}


def is_turns(value):
    """Whether any value is a program in turns."""
    if type(value) is not tuple or not value:
        return False
    if not all([_is_function(function) for function in value]):
        return False
    if value[0][0] != 0 or value[0][1] != ():
        return False
    made = {}
    for number, function in enumerate(value):
        if not _is_right_body(function[2], number, len(value), made):
            return False
    return len(made) == len(value) - 1


def _is_function(value):
    return type(value) is tuple and len(value) == 3 and is_index(value[0]) and type(value[1]) is tuple


def _is_right_body(value, number, many, made):
    """Whether a value may be the body of the function with this number among so many.

    made gets what functions it makes, each of which has a greater number and was not made ahead.
    """
    pending = [value]
    while pending:
        body = pending.pop()
        if type(body) is not tuple or len(body) != 2 or type(body[0]) is not tuple:
            return False
        for row in body[0]:
            if not _is_row(row):
                return False
            if row[0] == "fun":
                if not number < row[1] < many or row[1] in made:
                    return False
                made[row[1]] = True
        end = body[1]
        if not _is_end(end):
            return False
        pending.extend([inner for _, inner in inner_bodies(end)])
    return True


def _is_row(value):
    return begins_with_word(value) and value[0] in ROWS and _has_slots(value, ROWS[value[0]])


def _is_end(value):
    return begins_with_word(value) and value[0] in ENDS and _has_slots(value, ENDS[value[0]])


def _has_slots(value, slots):
    if len(value) != len(slots) + 1:
        return False
    return all([_fills_slot(slot, member) for slot, member in zip(slots, value[1:])])


def _fills_slot(slot, member):
    """Whether a member may stand there; kinds and bodies are looked at elsewhere."""
    if slot == "thing":
        return _is_thing(member)
    if slot == "index":
        return is_index(member)
    if slot == "sum word":
        return type(member) is str and member in SUM_WORDS
    if slot in ("kinds", "bodies"):
        return type(member) is tuple
    if slot == "things":
        return type(member) is tuple and all([_is_thing(part) for part in member])
    return True


def _is_thing(value):
    if not begins_with_word(value) or len(value) != 2:
        return False
    if value[0] == "int":
        return is_program_integer(value[1])
    return value[0] == "name" and is_index(value[1])
