"""Rules that the lookers of the levels from in turns on have in common.

A rule tells the kind of a row or thing, None where it does not hold: of the kinds
of the things in it, and of the looker, which knows how many kind variables are in
scope (free), the words of its kinds (words), and the kind of the empty row
(nothing). The rule of an end tells the list of the tuples of the kinds that the
bodies in it bind.
"""

from kindscarried.integers import SUM_WORDS, is_index
from kindscarried.kinds import fits, is_kind, opened, opened_first, unfolded

INT = ("int",)


def are_written(looker, kinds):
    """Whether a value is a tuple of kinds that may be written here."""
    return type(kinds) is tuple and all([is_written(looker, kind) for kind in kinds])


def is_written(looker, kind):
    return is_kind(looker.free, kind, looker.words)


def are_fitting(kinds, wanted):
    """Whether these are as many kinds as those, each of which fits."""
    return len(kinds) == len(wanted) and all([fits(kind, other) for kind, other in zip(kinds, wanted)])


def new_room(looker, kinds):
    """The kind of a room for things of these kinds, none of whose places is set; None if these are no kinds."""
    return ("room", tuple([(kind, False) for kind in kinds])) if are_written(looker, kinds) else None


def _has_place(kind, index):
    return kind[0] == "room" and is_index(index) and index < len(kind[1])


def kind_at(room, index):
    """The kind of what stands at a place of a room; None if it is not set."""
    if not _has_place(room, index):
        return None
    kind, is_set = room[1][index]
    return kind if is_set else None


def with_put(room, index, held):
    """The kind of a room into a place of which a thing of the held kind is put; None if it does not fit."""
    if not _has_place(room, index) or not fits(held, room[1][index][0]):
        return None
    return ("room", room[1][:index] + ((room[1][index][0], True),) + room[1][index + 1:])


def _at_rule(looker, node, kinds):
    _, _, given = node
    called = kinds[0]
    if called[0] not in ("not", "code") or not are_written(looker, given) or len(given) > called[1]:
        return None
    return opened_first(called, given)


def _sum_rule(looker, node, kinds):
    word = node[1]
    return INT if type(word) is str and word in SUM_WORDS and kinds == [INT, INT] else None


def _row_rule(looker, node, kinds):
    return ("row", tuple(kinds)) if type(node[1]) is tuple else None


def _part_rule(looker, node, kinds):
    row = kinds[0]
    return row[1][node[2]] if row[0] == "row" and is_index(node[2]) and node[2] < len(row[1]) else None


def _tag_rule(looker, node, kinds):
    _, index, kind, _ = node
    if not is_written(looker, kind) or kind[0] != "one" or not is_index(index) or index >= len(kind[1]):
        return None
    return kind if fits(kinds[0], kind[1][index]) else None


def _cell_rule(looker, node, kinds):
    return ("cell", kinds[0])


def _get_rule(looker, node, kinds):
    cell = kinds[0]
    return cell[1] if cell[0] == "cell" else None


def _set_rule(looker, node, kinds):
    cell, kind = kinds
    return looker.nothing if cell[0] == "cell" and fits(kind, cell[1]) else None


def _fold_rule(looker, node, kinds):
    kind = node[1]
    if not is_written(looker, kind) or kind[0] != "rec":
        return None
    return kind if fits(kinds[0], unfolded(kind)) else None


def _unfold_rule(looker, node, kinds):
    kind = kinds[0]
    return unfolded(kind) if kind[0] == "rec" else None


def _hide_rule(looker, node, kinds):
    _, hidden, _, kind = node
    if not is_written(looker, hidden) or not is_written(looker, kind) or kind[0] != "some":
        return None
    return kind if fits(kinds[0], opened(kind, (hidden,))) else None


def _open_rule(looker, node, kinds):
    """The next kind variable stands in scope from now on."""
    kind = kinds[0]
    if kind[0] != "some":
        return None
    inside = opened(kind, (("free", looker.free),))
    looker.free = looker.free + 1
    return inside


def _say_rule(looker, node, kinds):
    return looker.nothing if kinds[0] == INT else None


def _when_rule(looker, node, kinds):
    return [(), ()] if kinds[0] == INT else None


def _match_rule(looker, node, kinds):
    one = kinds[0]
    bodies = node[2]
    if one[0] != "one" or type(bodies) is not tuple or len(bodies) != len(one[1]):
        return None
    return [(kind,) for kind in one[1]]


def _halt_rule(looker, node, kinds):
    return [] if kinds[0] == INT else None


RULES = {
    "at": _at_rule, "sum": _sum_rule, "row": _row_rule, "part": _part_rule, "tag": _tag_rule, "cell": _cell_rule,
    "get": _get_rule, "set": _set_rule, "fold": _fold_rule, "unfold": _unfold_rule, "hide": _hide_rule,
    "open": _open_rule, "say": _say_rule, "when": _when_rule, "match": _match_rule, "halt": _halt_rule,
}


def shared_rule(word):
    return RULES[word]
