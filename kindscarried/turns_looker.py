"""The looker of programs in turns."""

from kindscarried.bodies import inner_things, look_at_body
from kindscarried.errors import IllKinded
from kindscarried.kind_rules import INT, are_fitting, are_written, is_written, shared_rule
from kindscarried.kinds import CLOSED_WORDS, opened
from kindscarried.turns import ENDS, ROWS, is_turns


def turns_judged(value):
    """None if any value is a program in turns that is right, else the place of the first fault."""
    try:
        functions_made(value)
    except IllKinded as fault:
        return fault.place
    return None


def functions_made(value):
    """The dict from the number of each function but the start to its Making; IllKinded of what is no right program."""
    if not is_turns(value):
        raise IllKinded(())
    looker = TurnsLooker(value)
    looker.look_at_all()
    return looker.makings


class Making:
    """Where a function is made: ahead of the row, the first ones (so many) of names, and free kind variables.

    kind is that of the function; names is a list of kinds that may go on growing.
    """

    def __init__(self, names, many, free, kind):
        self.names = names
        self.many = many
        self.free = free
        self.kind = kind


class TurnsLooker:
    """Looks at a program in turns; makings has what it found of the functions, by their numbers."""

    def __init__(self, program):
        self.program = program
        self.words = CLOSED_WORDS
        self.nothing = ("row", ())
        self.names = []
        self.free = 0
        self.makings = {}

    def look_at_all(self):
        """IllKinded with the place of the first fault."""
        for number, (many, _, body) in enumerate(self.program):
            names = []
            free = 0
            if number > 0:
                made = self.makings[number]
                free = made.free + many
                own = tuple([("free", made.free + index) for index in range(many)])
                names = made.names[:made.many] + [made.kind] + list(opened(made.kind, own))
            look_at_body(self, body, (number, 2), names, free)

    def check_body(self, body, place):
        """Nothing: the form was looked at ahead."""

    def look_at_row(self, row, place):
        rule = _fun_rule if row[0] == "fun" else shared_rule(row[0])
        kind = rule(self, row, self.kinds_in(ROWS[row[0]], row, place))
        if kind is None:
            raise IllKinded(place)
        if row[0] not in ("set", "say"):
            self.names.append(kind)

    def look_at_end(self, end, place):
        rule = _jump_rule if end[0] == "jump" else shared_rule(end[0])
        bound = rule(self, end, self.kinds_in(ENDS[end[0]], end, place))
        if bound is None:
            raise IllKinded(place)
        return bound

    def kinds_in(self, slots, node, place):
        """The list of the kinds of the things in a row or end, all of which must be in scope."""
        kinds = []
        for _, (word, number) in inner_things(slots, node):
            if word == "name" and number >= len(self.names):
                raise IllKinded(place)
            kinds.append(self.names[number] if word == "name" else INT)
        return kinds


def _fun_rule(looker, row, kinds):
    many, own, _ = looker.program[row[1]]
    kind = ("not", many, own)
    if not is_written(looker, kind):
        return None
    looker.makings[row[1]] = Making(looker.names, len(looker.names), looker.free, kind)
    return kind


def _jump_rule(looker, end, kinds):
    called = kinds[0]
    given = end[2]
    if called[0] != "not" or called[1] != len(given) or not are_written(looker, given):
        return None
    return [] if are_fitting(kinds[1:], opened(called, given)) else None
