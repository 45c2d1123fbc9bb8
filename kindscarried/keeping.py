"""What the functions of programs in turns keep of the names from outside of them."""

from kindscarried.bodies import inner_bodies, inner_things
from kindscarried.turns import ENDS, ROWS


def all_kept(program, made):
    """The list of the ascending lists of the names that each function keeps; of the start none.

    made leads from the number of each other function to where it is made.
    """
    kept = [[] for _ in program]
    for number in reversed(range(1, len(program))):
        names, functions = _read_in(program[number][2])
        # Functions that are made in this one come behind it, so what they keep is known.
        for function in functions:
            names.extend(kept[function])
        outside = made[number].many
        kept[number] = sorted({name: True for name in names if name < outside})
    return kept


def _read_in(body):
    """The list of the names that stand in a body, and that of the functions made there."""
    names = []
    functions = []
    pending = [body]
    while pending:
        rows, end = pending.pop()
        things = inner_things(ENDS[end[0]], end)
        for row in rows:
            things.extend(inner_things(ROWS[row[0]], row))
            if row[0] == "fun":
                functions.append(row[1])
        names.extend([number for _, (word, number) in things if word == "name"])
        pending.extend([inner for _, inner in inner_bodies(end)])
    return (names, functions)
