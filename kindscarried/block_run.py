"""What the runs of closed and of stored programs have in common."""

from kindscarried.body_run import BodyRun

NOTHING = ()


class BlockRun(BodyRun):
    """A run of a program of blocks: labels are worth their numbers, rows tuples.

    Things may be nested however deep.
    """

    def __init__(self, program, beats):
        BodyRun.__init__(self, beats)
        self.blocks = program[0]

    def bind_nothing(self):
        self.bind(NOTHING)

    def jumped(self, end, label):
        self.names = self.worths_of(end[2])
        return self.blocks[label][2]

    def worth(self, thing):
        if thing[0] == "name":
            return self.names[thing[1]]
        if thing[0] in ("int", "label"):
            return thing[1]
        return self.worth_made(thing)

    def worth_made(self, thing):
        """What a thing is worth in which there are things."""
        done = []
        pending = [(thing, False)]
        while pending:
            part, ready = pending.pop()
            inner = _things_in(part)
            if inner is None:
                done.append(self.worth(part))
            elif ready:
                start = len(done) - len(inner)
                worths = done[start:]
                del done[start:]
                done.append(_made(part, worths))
            else:
                pending.append((part, True))
                pending.extend([(inside, False) for inside in reversed(inner)])
        return done[0]


def _things_in(thing):
    """The tuple of the things right in a thing; None of one that never has any."""
    word = thing[0]
    if word == "row":
        return thing[1]
    if word == "at":
        return (thing[1],)
    if word in ("hide", "fold"):
        return (thing[2],)
    return (thing[3],) if word == "tag" else None


def _made(thing, worths):
    if thing[0] == "row":
        return tuple(worths)
    return (thing[1], worths[0]) if thing[0] == "tag" else worths[0]
