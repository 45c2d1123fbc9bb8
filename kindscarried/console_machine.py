"""A machine that goes on and back, step by step."""

from kindscarried.code_run import CodeRun
from kindscarried.collector import gone
from kindscarried.machine import first_state
from kindscarried.paper_run import left_by
from kindscarried.papers import least_paper


class Done:
    """A step that was done, and what takes it back.

    It was done at this row of this block, and said this integer, or None. registers is
    the list of (register, what it held ahead), things that of (address, thing
    ahead), None as the thing where there was none. whole is the state behind the step, if
    another one was put in its place since then, else None.
    """

    def __init__(self, block_number, row_number):
        self.block_number = block_number
        self.row_number = row_number
        self.said = None
        self.registers = []
        self.things = []
        self.whole = None


class Trace(CodeRun):
    """A run that keeps what takes its steps back; result is the integer of the halt, behind it, else None.

    Beside the changes of each step there is no state kept, so that a great many steps
    take little room.
    """

    def __init__(self, code):
        CodeRun.__init__(self, code, first_state(code))
        self.code = code
        self.steps = []
        self.result = None
        self.paper = None

    def go_on(self, many):
        """Goes so many steps, or until the end."""
        while many > 0 and self.result is None:
            step = Done(self.block_number, self.row_number)
            self.steps.append(step)
            told = self.do_step()
            step.said = self.said
            if told is not None:
                self.result = told[1]
            many = many - 1

    def write(self, number, worth):
        step = self.steps[-1]
        step.registers.append((number, self.registers[number]))
        CodeRun.write(self, number, worth)

    def change(self, address, thing, before):
        step = self.steps[-1]
        step.things.append((address, self.things[address]))
        CodeRun.change(self, address, thing, before)

    def make(self, number, thing):
        step = self.steps[-1]
        step.things.append((len(self.things), None))
        CodeRun.make(self, number, thing)

    def go_back(self, many):
        """Takes so many steps back, all if there are fewer."""
        while many > 0 and self.steps:
            self.take_back(self.steps.pop())
            many = many - 1

    def take_back(self, step):
        self.result = None
        if step.whole is not None:
            self.stand_at(step.whole)
        for number, worth in step.registers:
            self.registers[number] = worth
        for address, thing in step.things:
            if thing is None:
                self.things.pop()
            else:
                self.things[address] = thing
        self.block_number = step.block_number
        self.row_number = step.row_number

    def said_so_far(self):
        """The list of the integers said so far."""
        return [step.said for step in self.steps if step.said is not None]

    def line_paper(self):
        """The least paper of the code."""
        if self.paper is None:
            self.paper = least_paper(self.code)
        return self.paper

    def drop_things(self):
        """Takes off all things to which nothing leads."""
        self.put_in_place(gone(self.state()))

    def forget(self):
        """Takes off what the least paper leaves out here, too."""
        self.put_in_place(left_by(self.code, self.line_paper(), self.state()))

    def put_in_place(self, state):
        """Another state stands in the place of the present one; this is no step."""
        for step in self.steps[-1:]:
            if step.whole is None:
                step.whole = self.state()
        self.stand_at(state)
