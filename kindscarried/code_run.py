"""A machine on which code runs, step by step; kinds play no part."""

from kindscarried.integers import summed
from kindscarried.words import innermost


class Snag(ValueError):
    """What a step meets that can not be done; word tells what it is."""

    def __init__(self, word):
        self.word = word


class CodeRun:
    """A run of code, which stands at a row, or behind the rows at the end, of a block.

    registers is the list of worths, None of one not written, things the list of things
    by address. said is the integer that the last step said, None without one, and
    is_beat tells whether that step was a beat.
    """

    def __init__(self, code, state):
        self.blocks = code[1]
        self.said = None
        self.is_beat = False
        self.stand_at(state)

    def stand_at(self, state):
        registers, things, self.block_number, self.row_number = state
        self.registers = list(registers)
        self.things = list(things)

    def state(self):
        return (tuple(self.registers), tuple(self.things), self.block_number, self.row_number)

    def ahead(self):
        """What is done ahead of each step of a run."""

    def outcome(self, beats):
        """The outcome of the run; ("stuck", word, letters) if a step can not be done."""
        letters = []
        while True:
            self.ahead()
            told = self.do_step()
            if told is not None:
                return told[:1] + (told[1], tuple(letters))
            if self.is_beat:
                if beats == 0:
                    return ("spent", tuple(letters))
                beats = beats - 1
            elif self.said is not None:
                letters.append(self.said)

    def do_step(self):
        """Does a step; ("done", integer) if it halts, ("stuck", word) if it can not be done, else None."""
        self.said = None
        self.is_beat = False
        _, _, rows, end = self.blocks[self.block_number]
        try:
            if self.row_number < len(rows):
                row = rows[self.row_number]
                rule = ROWS[row[0]]
                self.row_number = self.row_number + 1
                rule(self, row)
            elif end[0] == "halt":
                return ("done", self.integer(end[1]))
            else:
                rule = ENDS[end[0]]
                rule(self, end)
        except Snag as snag:
            return ("stuck", snag.word)
        return None

    def write(self, number, worth):
        """A register gets a worth."""
        self.registers[number] = worth

    def change(self, address, thing, before):
        """Another thing stands at an address; before is the worth in the former one, if any, that it has no more."""
        self.things[address] = thing

    def make(self, number, thing):
        """A new thing, at the next address; a register leads to it."""
        self.things.append(thing)
        self.write(number, ("place", len(self.things) - 1))

    def holding(self, number):
        """What a register holds."""
        worth = self.registers[number] if number < len(self.registers) else None
        if worth is None:
            raise Snag("no-register")
        return worth

    def worth(self, word):
        word = innermost(word)
        return self.holding(word[1]) if word[0] == "register" else word

    def integer(self, word):
        sort, number = self.worth(word)
        if sort != "int":
            raise Snag("no-int")
        return number

    def thing_at(self, worth, sort):
        """(address, thing) of this sort that a worth leads to."""
        if worth[0] != "place" or worth[1] >= len(self.things):
            raise Snag("no-place")
        thing = self.things[worth[1]]
        if thing[0] != sort:
            raise Snag("no-" + sort)
        return (worth[1], thing)

    def room_at(self, worth, index):
        """(address, worths in it) of a room with this place that a worth leads to."""
        address, room = self.thing_at(worth, "room")
        if index >= len(room[1]):
            raise Snag("no-room")
        return (address, room[1])

    def go_to(self, word):
        """The run goes on at the beginning of the block of a goal: a beat."""
        sort, label = self.worth(word)
        if sort != "label" or label >= len(self.blocks):
            raise Snag("no-label")
        self.block_number = label
        self.row_number = 0
        self.is_beat = True


def _move(run, row):
    run.write(row[1], run.worth(row[2]))


def _sum(run, row):
    first = run.integer(row[3])
    run.write(row[2], ("int", summed(row[1], first, run.integer(row[4]))))


def _room(run, row):
    run.make(row[1], ("room", (None,) * len(row[2])))


def _load(run, row):
    _, worths = run.room_at(run.worth(row[2]), row[3])
    worth = worths[row[3]]
    if worth is None:
        raise Snag("not-set")
    run.write(row[1], worth)


def _store(run, row):
    index = row[2]
    address, worths = run.room_at(run.holding(row[1]), index)
    worth = run.worth(row[3])
    run.change(address, ("room", worths[:index] + (worth,) + worths[index + 1:]), worths[index])


def _tagged(run, row):
    run.make(row[1], ("tagged", row[2], run.worth(row[4])))


def _cell(run, row):
    run.make(row[1], ("cell", run.worth(row[2])))


def _get(run, row):
    _, cell = run.thing_at(run.worth(row[2]), "cell")
    run.write(row[1], cell[1])


def _set(run, row):
    address, cell = run.thing_at(run.holding(row[1]), "cell")
    run.change(address, ("cell", run.worth(row[2])), cell[1])


def _say(run, row):
    run.said = run.integer(row[1])


def _branch(run, row):
    if run.integer(row[1]) == 0:
        run.go_to(row[2])


ROWS = {
    "move": _move, "sum": _sum, "room": _room, "load": _load, "store": _store, "tagged": _tagged, "cell": _cell,
    "get": _get, "set": _set, "open": _move, "say": _say, "branch": _branch,
}


def _jump(run, end):
    run.go_to(end[1])


def _pick(run, end):
    _, number, words = end
    _, thing = run.thing_at(run.holding(number), "tagged")
    _, index, worth = thing
    if index >= len(words):
        raise Snag("no-way")
    run.write(number, worth)
    run.go_to(words[index])


ENDS = {"jump": _jump, "pick": _pick}
