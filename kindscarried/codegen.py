"""From stored programs to code."""

from kindscarried.block_code import BlockMaker
from kindscarried.code_kinds import carried_down, head_of
from kindscarried.errors import InvalidCount
from kindscarried.integers import is_index
from kindscarried.narrowing import is_narrow, narrowed_by
from kindscarried.survey import surveys

LEAST_REGISTERS = 8
MOST_REGISTERS = 32
# One register is left free for moves at once, and one for what is jumped to.
KEPT_BACK = 2


def code_kind_of(kind):
    """The kind of code of a kind of the stored level: what is jumped to finds its things in registers."""
    return carried_down(kind)


def coded(program, registers):
    """The code of a stored program, for so many registers."""
    told = surveys(program)
    check_registers(registers)
    narrow = program
    bodies = told
    if not is_narrow(program, registers - KEPT_BACK):
        narrow = narrowed_by(program, registers - KEPT_BACK, told)
        bodies = surveys(narrow)
    maker = BlockMaker(registers, 1 + len(narrow[0]))
    maker.make_block(0, (), bodies[-1])
    for number, (many, kinds, _) in enumerate(narrow[0]):
        maker.make_block(many, head_of(many, kinds), bodies[number])
    maker.make_others()
    return (registers, tuple(maker.blocks))


def check_registers(value):
    """InvalidCount unless any value is a number of registers that code may be made for."""
    if not is_index(value) or not LEAST_REGISTERS <= value <= MOST_REGISTERS:
        raise InvalidCount("an integer from 8 to 32 is wanted")
