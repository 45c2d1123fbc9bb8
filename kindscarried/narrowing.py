"""Stored programs that hold few things at once."""

from kindscarried.alive import block_widths, names_read
from kindscarried.bodies import inner_bodies, remade_body
from kindscarried.errors import InvalidCount, TooMany
from kindscarried.hands import Hands
from kindscarried.integers import is_index
from kindscarried.stored import stored_slots
from kindscarried.survey import surveys
from kindscarried.thing_changes import with_names

LEAST_WIDTH = 6


def narrowed(program, width):
    """A stored program whose width_of is at most the width, and whose run is the same."""
    told = surveys(program)
    if not is_index(width) or width < LEAST_WIDTH:
        raise InvalidCount("an integer from 6 on is wanted")
    return program if is_narrow(program, width) else narrowed_by(program, width, told)


def is_narrow(program, width):
    """Whether the width of a right program is at most this one."""
    return max(block_widths(program)) <= width


def narrowed_by(program, width, told):
    """What narrowed tells of a right program that is wider, and of which this is what surveys told."""
    widths = block_widths(program)
    _check_handed(program, width)
    blocks = []
    for number, (many, kinds, body) in enumerate(program[0]):
        if widths[number] > width:
            body = Narrower(told[number], width, len(kinds), many).body
        blocks.append((many, kinds, body))
    body = program[1]
    if widths[-1] > width:
        body = Narrower(told[-1], width, 0, 0).body
    return (tuple(blocks), body)


def _check_handed(program, width):
    """TooMany if a block or jump is handed, or an end reads, more than three fewer than the width."""
    most = width - 3
    for _, kinds, _ in program[0]:
        if len(kinds) > most:
            raise TooMany(width)
    pending = [body for _, _, body in program[0]] + [program[1]]
    while pending:
        _, end = pending.pop()
        if len({name: True for name in names_read("end", end)}) > most:
            raise TooMany(width)
        if end[0] == "jump" and len(end[2]) > most:
            raise TooMany(width)
        pending.extend([inner for _, inner in inner_bodies(end)])


class Narrower:
    """Makes a body anew that holds few things at once; body is what becomes of it.

    Things are told by their numbers in the survey.
    """

    def __init__(self, survey, width, handed, free):
        self.survey = survey
        self.parts = 0
        self.hands = Hands(survey, width - 3)
        for thing in range(handed):
            self.hands.take(thing, thing, 0)
        self.scope = []
        scope = (self.hands.whereabouts(), list(range(handed)), handed, free)
        self.body = remade_body(self, survey.parts[0].body, scope)

    def rows_and_end(self, body, scope):
        """scope is (what the hands held ahead, the things in scope, how many names are there here, kind variables)."""
        kept, self.scope, names, free = scope
        part = self.survey.parts[self.parts]
        self.hands.go_on(part, self.parts, kept, names, free)
        self.parts = self.parts + 1
        self.scope = list(self.scope)
        if part.bound is not None:
            self.scope.append(part.bound)
            self.hands.take(part.bound, names - 1, part.first)
        for index, row in enumerate(body[0]):
            self.remake_row(row, part.first + index, part.things[index])
        new = self.remade("end", body[1], part.end_moment(), body[1][0] == "match")
        inside = self.hands.names + (1 if body[1][0] == "match" else 0)
        below = (self.hands.whereabouts(), self.scope, inside, self.hands.free)
        return (tuple(self.hands.rows), new, [below for _ in inner_bodies(body[1])])

    def remake_row(self, row, moment, thing):
        name = self.hands.added(self.remade("row", row, moment, len(self.survey.moments[thing]) > 0))
        if row[0] == "open":
            self.hands.free = self.hands.free + 1
        self.hands.let_go(self.survey.reads[moment], moment + 1)
        self.hands.take(thing, name, moment + 1)
        self.scope.append(thing)

    def remade(self, sort, node, moment, binds):
        """The row or end with the names that things have here; what it reads is in the hands now."""
        self.hands.fetch(self.survey.reads[moment], moment, binds)
        return with_names(stored_slots, sort, node, self.name_told)

    def name_told(self, name):
        return self.hands.held[self.scope[name]]
