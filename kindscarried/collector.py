"""States of the machine without the things to which nothing leads."""

from kindscarried.code_run import CodeRun
from kindscarried.errors import IllKinded
from kindscarried.integers import check_count
from kindscarried.looker import looked
from kindscarried.machine import first_state


def reached(state):
    """The lot of the addresses to which registers lead, by things, too."""
    registers, things, _, _ = state
    return tuple(sorted(_marked(registers, things)))


def _marked(registers, things):
    """The dict of the addresses reached."""
    found = {}
    pending = list(registers)
    while pending:
        worth = pending.pop()
        if worth is not None and worth[0] == "place" and worth[1] not in found:
            found[worth[1]] = True
            pending.extend(_worths_in(things[worth[1]]))
    return found


def _worths_in(thing):
    """The list of the worths in a thing, None of a place not set."""
    return list(thing[1]) if thing[0] == "room" else [thing[-1]]


def gone(state):
    """The state with just the things that are reached, told by new addresses."""
    registers, things, block, row = state
    addresses = {old: new for new, old in enumerate(sorted(_marked(registers, things)))}
    left = tuple([_moved_thing(things[old], addresses) for old in addresses])
    return (_moved(registers, addresses), left, block, row)


def _moved(worths, addresses):
    return tuple([_moved_worth(worth, addresses) for worth in worths])


def _moved_worth(worth, addresses):
    return worth if worth is None or worth[0] != "place" else ("place", addresses[worth[1]])


def _moved_thing(thing, addresses):
    if thing[0] == "room":
        return ("room", _moved(thing[1], addresses))
    return thing[:-1] + (_moved_worth(thing[-1], addresses),)


class CollectedRun(CodeRun):
    """A run that takes off what is not reached ahead of the steps with some numbers."""

    def __init__(self, code, moments):
        CodeRun.__init__(self, code, first_state(code))
        self.moments = {moment: True for moment in moments}
        self.steps = 0

    def ahead(self):
        if self.steps in self.moments:
            self.stand_at(gone(self.state()))
        self.steps = self.steps + 1


def run_collected(code, beats, moments):
    """The outcome of a run that takes off what is not reached ahead of the steps with these numbers."""
    place = looked(code)
    if place is not None:
        raise IllKinded(place)
    check_count(beats)
    return CollectedRun(code, moments).outcome(beats)
