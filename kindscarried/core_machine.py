"""A machine that tells what a run by steps tells, without building its terms.

A term in which things would be put is kept as it stands in the program, with the
things that its names stand for; the parts and the depth of the whole term, which
the steps must keep within bounds, are told from the sizes.
"""

from kindscarried.core_sizes import sized
from kindscarried.errors import TooMany
from kindscarried.integers import summed


class Thing:
    """A done term: its parts and depth, and what it holds.

    held is of an int or spot the number, of a row the tuple of its things, of a
    tag (index, thing), of a fold its thing, of a hide (size of the hidden kind,
    thing), of a fun (the sized term, its things, its kinds).
    """

    def __init__(self, parts, depth, held):
        self.parts = parts
        self.depth = depth
        self.held = held


class Frame:
    """A term some of whose evaluated terms are still to be done.

    level is how deep it stands in the whole term, above how deep what is neither
    it nor in it is nested; parts and depth are its own, without what it evaluates;
    later is, for each term that it evaluates, how deep those behind it are.
    """

    def __init__(self, node, things, kinds, level, above):
        self.node = node
        self.things = things
        self.kinds = kinds
        self.level = level
        self.above = above
        self.done = []
        self.parts, self.depth = node.own.with_put_in(things, kinds)
        self.done_depth = 0
        self.later = [0]
        for inner in reversed(node.inner[1:]):
            _, depth = inner.whole.with_put_in(things, kinds)
            self.later.append(max(depth, self.later[-1]))
        self.later.reverse()

    def above_next(self):
        """How deep all but the next evaluated term is nested."""
        inner = max(self.done_depth, self.later[len(self.done)])
        return max(self.above, self.level - 1 + self.depth, self.level + inner)

    def keep(self, thing):
        """Takes the next evaluated term as done."""
        self.done.append(thing)
        self.parts = self.parts + thing.parts
        if thing.depth > self.done_depth:
            self.done_depth = thing.depth

    def made(self, held):
        """The thing that this term is, all that it evaluates being done."""
        return Thing(self.parts, max(self.depth, self.done_depth + 1), held)


class Machine:
    """A run by steps of a right program, with bounds on the parts and the depth of each next term."""

    def __init__(self, program, beats, most_parts, most_deep):
        self.whole = sized(program, 0, 0)
        self.beats = beats
        self.most_parts = most_parts
        self.most_deep = most_deep
        self.parts = self.whole.whole.parts
        self.frames = []
        self.cells = []
        self.letters = []

    def outcome(self):
        thing = self.enter(self.whole, (), (), 1, 0)
        while self.frames:
            frame = self.frames[-1]
            if thing is not None:
                frame.keep(thing)
                thing = None
            if self.enters_inner(frame):
                continue
            if frame.node.term[0] == "call" and self.beats == 0:
                return ("spent", tuple(self.letters))
            self.frames.pop()
            give = GIVES[frame.node.term[0]]
            thing = give(self, frame)
        return ("done", thing.held, tuple(self.letters))

    def enters_inner(self, frame):
        """Whether the next term that the frame's one evaluates has a frame now; things are kept as they stand."""
        inner = frame.node.inner
        while len(frame.done) < len(inner):
            node = inner[len(frame.done)]
            thing = _thing_as_it_stands(node, frame.things, frame.kinds)
            if thing is None:
                self.frames.append(Frame(node, frame.things, frame.kinds, frame.level + 1, frame.above_next()))
                return True
            frame.keep(thing)
        return False

    def enter(self, node, things, kinds, level, above):
        """The thing that a term is as it stands; None if it has a frame now."""
        thing = _thing_as_it_stands(node, things, kinds)
        if thing is None:
            self.frames.append(Frame(node, things, kinds, level, above))
        return thing

    def check_next(self, frame, parts, depth):
        """TooMany if the term with so many parts, nested so deep, is too much in the frame's place."""
        self.parts = self.parts + parts - frame.parts
        if self.parts > self.most_parts or frame.above > self.most_deep or frame.level - 1 + depth > self.most_deep:
            raise TooMany(self.most_parts)

    def give_thing(self, frame, thing):
        self.check_next(frame, thing.parts, thing.depth)
        return thing

    def give_body(self, frame, node, things, kinds):
        """Goes on with a term in the place of the frame's."""
        parts, depth = node.whole.with_put_in(things, kinds)
        self.check_next(frame, parts, depth)
        return self.enter(node, things, kinds, frame.level, frame.above)


def _thing_as_it_stands(node, things, kinds):
    """The thing that a term is which evaluates nothing, None of another one."""
    word = node.term[0]
    if word == "name":
        return things[node.term[1]]
    if word == "int":
        return Thing(1, 1, node.term[1])
    if word == "fun":
        parts, depth = node.whole.with_put_in(things, kinds)
        return Thing(parts, depth, (node, things, kinds))
    return None


def _give_sum(machine, frame):
    first, second = frame.done
    return machine.give_thing(frame, Thing(1, 1, summed(frame.node.term[1], first.held, second.held)))


def _give_when(machine, frame):
    body = frame.node.bodies[0 if frame.done[0].held == 0 else 1]
    return machine.give_body(frame, body, frame.things, frame.kinds)


def _give_let(machine, frame):
    return machine.give_body(frame, frame.node.bodies[0], frame.things + (frame.done[0],), frame.kinds)


def _give_call(machine, frame):
    machine.beats = machine.beats - 1
    node, things, kinds = frame.done[0].held
    given = [size.with_put_in((), frame.kinds) for size in frame.node.kinds]
    return machine.give_body(frame, node.bodies[0], things + tuple(frame.done), kinds + tuple(given))


def _give_row(machine, frame):
    return frame.made(tuple(frame.done))


def _give_part(machine, frame):
    return machine.give_thing(frame, frame.done[0].held[frame.node.term[2]])


def _give_tag(machine, frame):
    return frame.made((frame.node.term[1], frame.done[0]))


def _give_match(machine, frame):
    index, thing = frame.done[0].held
    return machine.give_body(frame, frame.node.bodies[index], frame.things + (thing,), frame.kinds)


def _give_cell(machine, frame):
    machine.cells.append(frame.done[0])
    return machine.give_thing(frame, Thing(1, 1, len(machine.cells) - 1))


def _give_get(machine, frame):
    return machine.give_thing(frame, machine.cells[frame.done[0].held])


def _give_set(machine, frame):
    spot, thing = frame.done
    machine.cells[spot.held] = thing
    return machine.give_thing(frame, Thing(1, 1, ()))


def _give_fold(machine, frame):
    return frame.made(frame.done[0])


def _give_unfold(machine, frame):
    return machine.give_thing(frame, frame.done[0].held)


def _give_hide(machine, frame):
    return frame.made((frame.node.kinds[0].with_put_in((), frame.kinds), frame.done[0]))


def _give_open(machine, frame):
    size, thing = frame.done[0].held
    return machine.give_body(frame, frame.node.bodies[0], frame.things + (thing,), frame.kinds + (size,))


def _give_say(machine, frame):
    machine.letters.append(frame.done[0].held)
    return machine.give_thing(frame, Thing(1, 1, ()))


GIVES = {
    "sum": _give_sum, "when": _give_when, "let": _give_let, "call": _give_call, "row": _give_row,
    "part": _give_part, "tag": _give_tag, "match": _give_match, "cell": _give_cell,
    "get": _give_get, "set": _give_set, "fold": _give_fold, "unfold": _give_unfold,
    "hide": _give_hide, "open": _give_open, "say": _give_say,
}
