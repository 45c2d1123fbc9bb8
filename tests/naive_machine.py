"""The machine of code, told plainly: each step a new state; and runs by steps."""

from kindscarried.integers import summed


class Met(Exception):
    pass


def naive_step(code, state):
    try:
        return told_step(code, state)
    except Met as met:
        return ("stuck", met.args[0])


def told_step(code, state):
    registers, things, block, row = state
    _, blocks = code
    _, _, rows, end = blocks[block]

    def fail(word):
        raise Met(word)

    def held(r, now=registers):
        if r >= len(now) or now[r] is None:
            fail("no-register")
        return now[r]

    def worth(word, now=registers):
        if word[0] == "register":
            return held(word[1], now)
        if word[0] in ("at", "unfold"):
            return worth(word[1], now)
        return worth(word[2], now) if word[0] in ("hide", "fold") else word

    def integer(word):
        found = worth(word)
        return found[1] if found[0] == "int" else fail("no-int")

    def thing(found, sort):
        if found[0] != "place" or not 0 <= found[1] < len(things):
            fail("no-place")
        if things[found[1]][0] != sort:
            fail("no-" + sort)
        return found[1], things[found[1]]

    def room(found, index):
        at, whole = thing(found, "room")
        if index >= len(whole[1]):
            fail("no-room")
        return at, whole[1]

    def goal(word, now=registers):
        found = worth(word, now)
        if found[0] != "label" or found[1] >= len(blocks):
            fail("no-label")
        return found[1]

    def wrote(r, found, more=things):
        return ("on", (registers[:r] + (found,) + registers[r + 1:], more, block, row + 1), None)

    def made(r, new):
        return wrote(r, ("place", len(things)), things + (new,))

    def changed(at, new):
        return ("on", (registers, things[:at] + (new,) + things[at + 1:], block, row + 1), None)

    if row == len(rows):
        if end[0] == "halt":
            return ("halt", integer(end[1]))
        if end[0] == "jump":
            return ("on", (registers, things, goal(end[1]), 0), None)
        _, (_, index, inside) = thing(held(end[1]), "tagged")
        if index >= len(end[2]):
            fail("no-way")
        now = registers[:end[1]] + (inside,) + registers[end[1] + 1:]
        return ("on", (now, things, goal(end[2][index], now), 0), None)
    now = rows[row]
    word = now[0]
    if word in ("move", "open"):
        return wrote(now[1], worth(now[2]))
    if word == "sum":
        first = integer(now[3])
        return wrote(now[2], ("int", summed(now[1], first, integer(now[4]))))
    if word == "room":
        return made(now[1], ("room", (None,) * len(now[2])))
    if word == "load":
        _, worths = room(worth(now[2]), now[3])
        return wrote(now[1], worths[now[3]]) if worths[now[3]] else fail("not-set")
    if word == "store":
        at, worths = room(held(now[1]), now[2])
        return changed(at, ("room", worths[:now[2]] + (worth(now[3]),) + worths[now[2] + 1:]))
    if word == "tagged":
        return made(now[1], ("tagged", now[2], worth(now[4])))
    if word == "cell":
        return made(now[1], ("cell", worth(now[2])))
    if word == "get":
        return wrote(now[1], thing(worth(now[2]), "cell")[1][1])
    if word == "set":
        at, _ = thing(held(now[1]), "cell")
        return changed(at, ("cell", worth(now[2])))
    if word == "say":
        return ("on", (registers, things, block, row + 1), integer(now[1]))
    if integer(now[1]) == 0:
        return ("on", (registers, things, goal(now[2]), 0), None)
    return ("on", (registers, things, block, row + 1), None)


def is_beat(code, state, told):
    """Whether a step that goes on was a jump, a branch taken or a pick."""
    rows = code[1][state[2]][2]
    if state[3] == len(rows):
        return True
    return rows[state[3]][0] == "branch" and told[1][3] == 0


def naive_run(code, beats, ahead=lambda state: state):
    """(outcome, the states, each as ahead leaves it) of a run by steps."""
    state = ((None,) * code[0], (), 0, 0)
    letters, states = (), []
    while True:
        state = ahead(state)
        states.append(state)
        told = naive_step(code, state)
        if told[0] == "halt":
            return ("done", told[1], letters), states
        if told[0] == "stuck":
            return told + (letters,), states
        if is_beat(code, state, told):
            if beats == 0:
                return ("spent", letters), states
            beats -= 1
        if told[2] is not None:
            letters += (told[2],)
        state = told[1]
