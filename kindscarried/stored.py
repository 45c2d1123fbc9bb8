"""Stored programs: their looker and their runs."""

from kindscarried.block_run import BlockRun
from kindscarried.closed_looker import BlockLooker, shared_slots
from kindscarried.errors import IllKinded
from kindscarried.integers import check_count
from kindscarried.kind_rules import kind_at, new_room, shared_rule, with_put
from kindscarried.kinds import STORED_WORDS

ROWS = {"room": ("own",), "put": ("thing", "own", "thing"), "tagged": ("own", "own", "thing")}


def stored_slots(sort, word):
    """What stands behind a word of a stored program, a "row", "end" or "thing"; None if there is no such word."""
    return ROWS[word] if sort == "row" and word in ROWS else shared_slots(sort, word)


class StoredLooker(BlockLooker):
    """Looks at a stored program, any value: rows make rooms, put things into them, and make tagged things."""

    def __init__(self, program):
        BlockLooker.__init__(self, program, STORED_WORDS, ("room", ()))

    def slots_of(self, sort, word):
        return stored_slots(sort, word)

    def more_rules(self, word):
        return RULES.get(word)


def _part_rule(looker, row, kinds):
    return kind_at(kinds[0], row[2])


def _room_rule(looker, row, kinds):
    return new_room(looker, row[1])


def _put_rule(looker, row, kinds):
    room, held = kinds
    return with_put(room, row[2], held)


def _tagged_rule(looker, row, kinds):
    rule = shared_rule("tag")
    return rule(looker, row, kinds)


RULES = {"part": _part_rule, "room": _room_rule, "put": _put_rule, "tagged": _tagged_rule}


def stored_judged(value):
    """None if any value is a stored program all of whose rules are kept, else the place of the first fault."""
    return StoredLooker(value).first_fault()


class StoredRun(BlockRun):
    """A run of a stored program: rooms are worth lists, which are changed for all names that lead to them."""

    def more_rules(self, word):
        return RUNS.get(word)


def _run_room(run, row):
    run.bind([None for _ in row[1]])


def _run_put(run, row):
    room = run.worth(row[1])
    room[row[2]] = run.worth(row[3])
    run.bind(room)


def _run_tagged(run, row):
    run.bind((row[1], run.worth(row[3])))


RUNS = {"room": _run_room, "put": _run_put, "tagged": _run_tagged}


def run_stored(program, beats):
    """The outcome of a stored program."""
    place = stored_judged(program)
    if place is not None:
        raise IllKinded(place)
    check_count(beats)
    return StoredRun(program, beats).outcome(program[1])
