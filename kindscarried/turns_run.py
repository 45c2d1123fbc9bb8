"""Runs of programs in turns."""

from kindscarried.body_run import BodyRun
from kindscarried.errors import IllKinded
from kindscarried.integers import check_count
from kindscarried.turns_looker import turns_judged


class Function:
    """What a function is worth: its number, and what the names ahead of the row that made it are worth.

    These are the first ones (so many) of a list that may go on growing.
    """

    def __init__(self, number, names, many):
        self.number = number
        self.names = names
        self.many = many


class TurnsRun(BodyRun):
    """A run of a program in turns: rows are worth tuples, and nothing is bound by a set or say."""

    def __init__(self, program, beats):
        BodyRun.__init__(self, beats)
        self.program = program

    def worth(self, thing):
        return self.names[thing[1]] if thing[0] == "name" else thing[1]

    def more_rules(self, word):
        return RULES.get(word)

    def jumped(self, end, function):
        worths = self.worths_of(end[3])
        self.names = function.names[:function.many] + [function] + worths
        return self.program[function.number][2]


def _fun(run, row):
    run.bind(Function(row[1], run.names, len(run.names)))


def _row(run, row):
    run.bind(tuple(run.worths_of(row[1])))


def _tag(run, row):
    run.bind((row[1], run.worth(row[3])))


def _alike(run, row):
    run.bind(run.worth(row[2]))


RULES = {"fun": _fun, "row": _row, "tag": _tag, "fold": _alike, "hide": _alike}


def run_turns(program, beats):
    """The outcome of a program in turns."""
    place = turns_judged(program)
    if place is not None:
        raise IllKinded(place)
    check_count(beats)
    return TurnsRun(program, beats).outcome(program[0][2])
