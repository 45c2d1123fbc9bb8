"""Values with one part changed by chance, from a seed."""

PARTS = (("int", 0), ("int", 1), ("name", 0), ("name", 1), ("name", 2), ("name", 3), ("name", 5), ("int",), ("free", 0), ("free", 1), ("var", 0),
         ("row", ()), ("row", (("int",),)), ("cell", ("int",)), ("one", (("int",), ("row", ()))), ("rec", ("one", (("var", 0),))), ("some", ("var", 0)),
         ("not", 0, (("int",),)), ("not", 1, (("var", 0),)), ("label", 0), ("label", 1), ("at", ("label", 0), ()), ("at", ("label", 1), (("int",),)),
         ("halt", ("int", 0)), ("say", ("name", 0)), ("open", ("name", 0)), ("thing", ("name", 0)), ("part", ("name", 0), 0), ("room", ()),
         ("room", ((("int",), True),)), ("put", ("name", 0), 0, ("int", 1)), ("get", ("name", 0)), 0, 1, 2, 3, -1, 2 ** 31, True, None, "x", "add", "row",
         "int", "name", "tag", (), (("name", 0),), (("int",),), [], ((), ("halt", ("int", 0))))


def places_in(value):
    """The list of the places of all parts of a tuple, the whole aside."""
    out = []
    pending = [((), value)]
    while pending:
        place, part = pending.pop()
        if isinstance(part, tuple):
            for index, inner in enumerate(part):
                out.append(place + (index,))
                pending.append((place + (index,), inner))
    return out


def with_part(value, place, part):
    if not place:
        return part
    return value[:place[0]] + (with_part(value[place[0]], place[1:], part),) + value[place[0] + 1:]


def part_at(value, place):
    for index in place:
        value = value[index]
    return value


def changed(rng, value):
    """The value with one part replaced, taken out, put twice, or swapped with its neighbour."""
    place = rng.choice(places_in(value))
    around, at = part_at(value, place[:-1]), place[-1]
    sort = rng.randrange(8)
    if sort == 0:
        new = around[:at] + around[at + 1:]
    elif sort == 1:
        new = around[:at + 1] + around[at:]
    elif sort == 2 and at:
        new = around[:at - 1] + (around[at], around[at - 1]) + around[at + 1:]
    elif sort < 5:
        part = part_at(value, rng.choice(places_in(value)))
        new = around[:at] + (part,) + around[at + 1:]
    elif sort == 5 and type(around[at]) is int:
        new = around[:at] + (around[at] + rng.choice((-1, 1, 2)),) + around[at + 1:]
    else:
        new = around[:at] + (rng.choice(PARTS),) + around[at + 1:]
    return with_part(value, place[:-1], new)
