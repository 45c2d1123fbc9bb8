"""Runs of code that forget what a paper leaves out."""

from kindscarried.code_run import CodeRun
from kindscarried.collector import gone
from kindscarried.machine import first_state


def line_numbers(code):
    """The list of the indexes of the first lines of the blocks in papers of the code."""
    numbers = [0]
    for block in code[1]:
        numbers.append(numbers[-1] + len(block[2]) + 1)
    return numbers


def left_by(code, paper, state):
    """The state without what the line of a right paper leaves out where it stands."""
    registers, things, block, row = state
    _, regs = paper[line_numbers(code)[block] + row]
    known = {number: True for number, _ in regs}
    left = [worth if number in known else None for number, worth in enumerate(registers)]
    return gone((tuple(left), things, block, row))


class PaperRun(CodeRun):
    """A run that keeps, in truth, all its things, and tells afterwards when each one would have been left.

    The moment is the number of the next step. A thing is left at a moment if one of the
    registers that the line has leads to it then. births has for each thing the first
    moment at which it may be left; stamps has the last moment at which a register, or
    a thing that leads elsewhere now, led to it, as far as that is known.
    """

    def __init__(self, code, paper):
        CodeRun.__init__(self, code, first_state(code))
        self.lines = [[number for number, _ in regs] for _, regs in paper]
        self.first_lines = line_numbers(code)
        self.moment = -1
        self.births = []
        self.stamps = []

    def ahead(self):
        self.moment = self.moment + 1
        for number in self.lines[self.first_lines[self.block_number] + self.row_number]:
            self.stamp(self.registers[number])

    def stamp(self, worth):
        if worth is not None and worth[0] == "place":
            self.stamps[worth[1]] = self.moment

    def change(self, address, thing, before):
        # What led to the thing that is left out of this one was left at this moment.
        self.stamp(before)
        CodeRun.change(self, address, thing, before)

    def make(self, number, thing):
        self.births.append(self.moment + 1)
        self.stamps.append(self.moment)
        CodeRun.make(self, number, thing)

    def most_at_once(self):
        """The greatest number of things left at a moment."""
        changes = [0] * (self.moment + 2)
        for birth, last in zip(self.births, self.last_moments()):
            if birth <= last:
                changes[birth] = changes[birth] + 1
                changes[last + 1] = changes[last + 1] - 1
        left = 0
        most = 0
        for change in changes:
            left = left + change
            most = max(most, left)
        return most

    def last_moments(self):
        """The list of the last moment at which each thing was left.

        A thing is left as long as another one is that leads to it to the end of the run.
        """
        stamps = self.stamps
        last = [None for _ in stamps]
        for moment, start in sorted([(stamp, address) for address, stamp in enumerate(stamps)], reverse=True):
            pending = [start]
            while pending:
                address = pending.pop()
                if last[address] is None:
                    last[address] = moment
                    pending.extend(self.led_to(address))
        return last

    def led_to(self, address):
        """The list of the addresses to which a thing leads."""
        thing = self.things[address]
        worths = thing[1] if thing[0] == "room" else (thing[-1],)
        return [worth[1] for worth in worths if worth is not None and worth[0] == "place"]
