"""What the runs of programs in turns, of closed and of stored ones have in common."""

from kindscarried.integers import summed


class BodyRun:
    """A run that goes from body to body.

    names is the list of what the names in scope are worth, letters that of the
    integers said, beats how many are left. A tag is worth (index, worth), a cell a
    list of the one worth that it has; kinds, "fold", "unfold", "hide" and "open" play
    no part. Each level tells what a thing is worth, what a row of its own does, what
    a row without a thing to tell binds, and the body that a jump leads to.
    """

    def __init__(self, beats):
        self.beats = beats
        self.names = []
        self.letters = []

    def worth(self, thing):
        """What a thing is worth."""

    def more_rules(self, word):
        """What does a row of this level, None of a row that other levels have, too."""

    def bind_nothing(self):
        """Binds the name of a set or say, if there is one."""

    def jumped(self, end, worth):
        """The body that a jump to this worth leads to, its names being bound."""

    def worths_of(self, things):
        return [self.worth(thing) for thing in things]

    def bind(self, worth):
        self.names.append(worth)

    def outcome(self, body):
        while True:
            for row in body[0]:
                rule = self.more_rules(row[0]) or RULES[row[0]]
                rule(self, row)
            end = body[1]
            asked = self.worth(end[1])
            if end[0] == "halt":
                return ("done", asked, tuple(self.letters))
            if end[0] == "when" and asked != 0:
                body = end[3]
            elif self.beats == 0:
                return ("spent", tuple(self.letters))
            else:
                self.beats = self.beats - 1
                body = self.body_behind(end, asked)

    def body_behind(self, end, asked):
        """The body behind an end that is a beat."""
        if end[0] == "jump":
            return self.jumped(end, asked)
        if end[0] == "when":
            return end[2]
        index, worth = asked
        self.bind(worth)
        return end[2][index]


def _sum(run, row):
    run.bind(summed(row[1], run.worth(row[2]), run.worth(row[3])))


def _part(run, row):
    held = run.worth(row[1])
    run.bind(held[row[2]])


def _cell(run, row):
    run.bind([run.worth(row[1])])


def _get(run, row):
    cell = run.worth(row[1])
    run.bind(cell[0])


def _set(run, row):
    cell = run.worth(row[1])
    cell[0] = run.worth(row[2])
    run.bind_nothing()


def _alike(run, row):
    run.bind(run.worth(row[1]))


def _say(run, row):
    run.letters.append(run.worth(row[1]))
    run.bind_nothing()


RULES = {
    "sum": _sum, "part": _part, "cell": _cell, "get": _get, "set": _set, "thing": _alike, "unfold": _alike,
    "open": _alike, "say": _say,
}
