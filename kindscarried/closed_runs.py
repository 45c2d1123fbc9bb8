"""Runs of closed programs."""

from kindscarried.block_run import BlockRun
from kindscarried.closed import closed_judged
from kindscarried.errors import IllKinded
from kindscarried.integers import check_count


def run_closed(program, beats):
    """The outcome of a closed program."""
    place = closed_judged(program)
    if place is not None:
        raise IllKinded(place)
    check_count(beats)
    return BlockRun(program, beats).outcome(program[1])
