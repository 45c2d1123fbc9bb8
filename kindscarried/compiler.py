"""The whole compiler: from core down to code."""

from kindscarried.closed_runs import run_closed
from kindscarried.closing import closed_of
from kindscarried.codegen import check_registers, coded
from kindscarried.core_looker import core_judged
from kindscarried.core_parts import size_of
from kindscarried.core_run import run_core
from kindscarried.errors import IllKinded, InvalidPart
from kindscarried.integers import is_index
from kindscarried.machine import run
from kindscarried.passes import optimised
from kindscarried.source_texts import source_told
from kindscarried.stored import run_stored
from kindscarried.storing import stored_of
from kindscarried.to_core import to_core
from kindscarried.to_turns import to_turns
from kindscarried.turns_run import run_turns

# A run is done at each later level within so many times the beats, for each term and beside them.
MORE_BEATS = 2


def stages(program, registers):
    """The tuple of the core program, the one in turns, the closed one, the stored one, and the code."""
    _check_program(program)
    check_registers(registers)
    turns = to_turns(program)
    closed = closed_of(turns)
    stored = stored_of(closed)
    return (program, turns, closed, stored, coded(stored, registers))


def compiled(program, registers):
    """The code of a core program."""
    return stages(program, registers)[-1]


def compiled_text(text, registers, optimise):
    """The code of a source text; of the optimised core program if optimise is True."""
    program = to_core(source_told(text))
    return compiled(optimised(program) if optimise is True else program, registers)


def run_level(index, program, beats):
    """The outcome of a program of the level with this index: core, in turns, closed, stored, code."""
    if not is_index(index) or index > 4:
        raise InvalidPart("the index of a level is wanted, 0 to 4")
    if index == 0:
        return run_core(program, beats)
    if index == 1:
        return run_turns(program, beats)
    if index == 2:
        return run_closed(program, beats)
    return run_stored(program, beats) if index == 3 else run(program, beats)


def beat_factor(program):
    """Within how many times the beats of a core program each later level is done."""
    _check_program(program)
    return MORE_BEATS + size_of(program)


def _check_program(program):
    place = core_judged(program)
    if place is not None:
        raise IllKinded(place)
