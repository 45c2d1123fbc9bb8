"""The blocks of code that one stored program becomes."""

from kindscarried.bodies import inner_things
from kindscarried.code_kinds import carried_down
from kindscarried.kind_forms import MOST_VARIABLES
from kindscarried.kind_numbers import free_written
from kindscarried.kinds import shut, with_free
from kindscarried.registers import moved_at_once
from kindscarried.stored import stored_slots
from kindscarried.words import innermost


class CodeKinds:
    """The kinds of code of the things of a survey, each of which is worked out once."""

    def __init__(self, survey):
        self.survey = survey
        self.known = {}

    def kind_of_thing(self, thing):
        """Kind variables are those of the stored program."""
        if thing not in self.known:
            self.known[thing] = carried_down(self.survey.kinds[thing])
        return self.known[thing]


class Waiting:
    """A body that becomes a block of its own, with a head of these regs.

    part is the one of the survey that it is, scope the list of the things that its names
    stand for; places leads from each thing that it reads to its register. free is how
    many kind variables are in scope, frees leads from each of them that the block has
    to its number there.
    """

    def __init__(self, kinds, part, scope, places, free, frees, regs):
        self.kinds = kinds
        self.survey = kinds.survey
        self.part = part
        self.scope = scope
        self.places = places
        self.free = free
        self.frees = frees
        self.head_regs = regs


class BlockMaker:
    """Makes the blocks; those of bodies within others come behind all others.

    now is the body that is being made, with what is in scope where it is, rows are those
    of its block. Things lie in the registers below spare, which is kept for moves at once.
    """

    def __init__(self, registers, many):
        self.spare = registers - 1
        self.next_label = many
        self.blocks = []
        self.waiting = []
        self.now = None
        self.rows = []

    def make_block(self, many, regs, survey):
        """Makes the block of a whole body, which is handed its things in registers 0, 1, .. ."""
        handed = list(range(len(regs)))
        places = {number: number for number in handed}
        frees = {number: number for number in range(many)}
        self.make(Waiting(CodeKinds(survey), survey.parts[0], handed, places, many, frees, regs))

    def make_others(self):
        """Makes the blocks of all bodies that wait, and of those that wait behind these."""
        while self.waiting:
            waiting = self.waiting
            self.waiting = []
            for one in waiting:
                self.make(one)

    def make(self, waiting):
        self.now = waiting
        self.rows = []
        many = len(waiting.frees)
        end = self.make_body(waiting, waiting.part)
        self.blocks.append((many, waiting.head_regs, tuple(self.rows), end))

    def make_body(self, now, part):
        """The end of the block, behind the rows for the body; behind a when, what comes if this is not 0 goes on."""
        while True:
            now.places = self.still_read(now.places, part)
            rows, end = part.body
            for index, row in enumerate(rows):
                self.make_row(row, part.first + index, part.things[index], part)
            if end[0] == "halt":
                return ("halt", self.word_of(end[1]))
            if end[0] != "when":
                return self.pick(end, part) if end[0] == "match" else self.jump(end)
            self.rows.append(("branch", self.word_of(end[1]), self.goal(part.inner[0], {})))
            part = now.survey.parts[part.inner[1]]

    def still_read(self, places, part):
        """The registers of those of these things that a part reads."""
        return {thing: places[thing] for thing in places if self.now.survey.is_alive(thing, part.first, part)}

    def make_row(self, row, moment, thing, part):
        now = self.now
        words = [self.word_of(inner) for _, inner in inner_things(stored_slots("row", row[0]), row)]
        reads = now.survey.reads[moment]
        later = dict(now.places)
        for read in reads:
            if not now.survey.is_alive(read, moment + 1, part):
                later.pop(read)
        is_read = now.survey.is_alive(thing, moment + 1, part)
        if row[0] in ("set", "say"):
            target = self.make_nothing(row, words, later, is_read)
        elif row[0] == "put":
            target = self.make_put(row, words, later)
        else:
            target = lowest_free(later)
            self.rows.append(self.told(row, target, words))
        if row[0] == "open":
            now.frees[now.free] = len(now.frees)
            now.free = now.free + 1
        if is_read:
            later[thing] = target
        now.places = later
        now.scope.append(thing)

    def told(self, row, target, words):
        """The row of code that writes a register, of a row that binds what it makes."""
        word = row[0]
        if word == "sum":
            return ("sum", row[1], target) + tuple(words)
        if word == "room":
            return ("room", target, tuple([self.kind_told(kind) for kind in row[1]]))
        if word == "part":
            return ("load", target, words[0], row[2])
        if word == "tagged":
            return ("tagged", target, row[1], self.kind_told(row[2]), words[0])
        if word == "unfold":
            return ("move", target, ("unfold", words[0]))
        return ("move" if word == "thing" else word, target, words[0])

    def make_nothing(self, row, words, later, is_read):
        """A set or say, and if its name is read, the empty room; the register of this."""
        if row[0] == "set":
            _, cell = words[0]
            self.rows.append(("set", cell, words[1]))
        else:
            self.rows.append(("say", words[0]))
        target = lowest_free(later)
        if is_read:
            self.rows.append(("room", target, ()))
        return target

    def make_put(self, row, words, later):
        """A store; the elder name of the room keeps its register, as it is known there, if it is read later."""
        _, room = words[0]
        target = room
        if room in list(later.values()):
            target = lowest_free(dict(self.now.places))
            self.rows.append(("move", target, words[0]))
        self.rows.append(("store", target, row[2], words[1]))
        return target

    def goal(self, number, bound):
        """The word of a block for the part with this number, which waits from now on.

        bound leads from the thing that it binds at its beginning to the register of it.
        """
        now = self.now
        part = now.survey.parts[number]
        scope = now.scope + list(bound)
        places = self.still_read(now.places, part)
        places.update(self.still_read(bound, part))
        order = self.variables_for(part, places)
        regs = [(places[thing], shut(now.kinds.kind_of_thing(thing), order)) for thing in places]
        frees = {old: new for new, old in enumerate(order)}
        self.waiting.append(Waiting(now.kinds, part, scope, places, now.free, frees, tuple(sorted(regs))))
        self.next_label = self.next_label + 1
        given = tuple([("free", now.frees[old]) for old in order])
        return ("at", ("label", self.next_label - 1), given)

    def variables_for(self, part, places):
        """The tuple of the kind variables that the block for a part gets: all, unless these are too many."""
        now = self.now
        if len(now.frees) <= MOST_VARIABLES:
            return tuple(list(now.frees))
        wanted = free_written(part.body)
        for thing in places:
            wanted.update(free_written(now.survey.kinds[thing]))
        return tuple([old for old in now.frees if old in wanted])

    def pick(self, end, part):
        """The end for a match: what is in the tagged thing comes in the register of this, if nothing else reads it."""
        now = self.now
        word = self.word_of(end[1])
        _, target = word
        later = {}
        for number in part.inner:
            later.update(self.still_read(now.places, now.survey.parts[number]))
        if target in list(later.values()):
            target = lowest_free(later)
            self.rows.append(("move", target, word))
        goals = []
        for number in part.inner:
            inner = now.survey.parts[number]
            goals.append(self.goal(number, {inner.bound: target}))
        return ("pick", target, tuple(goals))

    def jump(self, end):
        """The end for a jump, behind the moves of what it hands on."""
        target = self.word_of(end[1])
        pending = [(index, self.word_of(thing)) for index, thing in enumerate(end[2])]
        sort, number = innermost(target)
        if sort == "register" and number < len(pending):
            pending.append((len(pending), target))
            target = ("register", len(pending) - 1)
        self.rows.extend(moved_at_once(tuple(pending), self.spare))
        return ("jump", target)

    def kind_told(self, kind):
        now = self.now
        if len(now.frees) == now.free:
            return carried_down(kind)
        frees = now.frees
        return with_free(carried_down(kind), lambda old: ("free", frees[old]))

    def word_of(self, thing):
        """The word for a thing, however deep it is nested."""
        around = []
        while thing[0] in ("at", "hide", "fold"):
            around.append(thing)
            thing = thing[1] if thing[0] == "at" else thing[2]
        word = thing
        if thing[0] == "name":
            word = ("register", self.now.places[self.now.scope[thing[1]]])
        if thing[0] == "label":
            word = ("label", thing[1] + 1)
        for outer in reversed(around):
            if outer[0] == "at":
                word = ("at", word, tuple([self.kind_told(kind) for kind in outer[2]]))
            elif outer[0] == "hide":
                word = ("hide", self.kind_told(outer[1]), word, self.kind_told(outer[3]))
            else:
                word = ("fold", self.kind_told(outer[1]), word)
        return word


def lowest_free(places):
    """The lowest register in which nothing is."""
    taken = {place: True for place in places.values()}
    free = 0
    while free in taken:
        free = free + 1
    return free
