"""The looker of closed programs."""

from kindscarried.closed_looker import BlockLooker, shared_slots
from kindscarried.kinds import CLOSED_WORDS

THINGS = {"row": ("things",), "tag": ("own", "own", "thing")}


def closed_slots(sort, word):
    """What stands behind a word of a closed program, a "row", "end" or "thing"; None if there is no such word."""
    return THINGS[word] if sort == "thing" and word in THINGS else shared_slots(sort, word)


class ClosedLooker(BlockLooker):
    """Looks at a closed program, any value: rows and tagged things stand among its things."""

    def __init__(self, program):
        BlockLooker.__init__(self, program, CLOSED_WORDS, ("row", ()))

    def slots_of(self, sort, word):
        return closed_slots(sort, word)


def closed_judged(value):
    """None if any value is a closed program all of whose rules are kept, else the place of the first fault."""
    return ClosedLooker(value).first_fault()
