"""What the programs from in turns on have in common: bodies, tuples (rows, end)."""


def inner_bodies(end):
    """The list of (path, body) of the bodies in an end; the path leads down to each from the end."""
    if end[0] == "when":
        return [((2,), end[2]), ((3,), end[3])]
    if end[0] == "match":
        return [((2, index), body) for index, body in enumerate(end[2])]
    return []


def inner_things(slots, node):
    """The list of (path, thing) of the things right in a row, end or thing with these slots.

    Of what should be a tuple of things and is none there are none.
    """
    things = []
    for at, slot in enumerate(slots):
        member = node[at + 1]
        if slot == "thing":
            things.append(((at + 1,), member))
        elif slot == "things" and type(member) is tuple:
            things.extend([((at + 1, index), thing) for index, thing in enumerate(member)])
    return things


def with_things(slots, node, things):
    """The row, end or thing with others in the places of the things right in it."""
    members = [node[0]]
    used = 0
    for slot, member in zip(slots, node[1:]):
        if slot == "thing":
            members.append(things[used])
            used = used + 1
        elif slot == "things":
            members.append(tuple(things[used:used + len(member)]))
            used = used + len(member)
        else:
            members.append(member)
    return tuple(members)


def look_at_body(looker, body, place, names, free):
    """Looks at a body at a place, ahead of which are names, a list of their kinds, and so many kind variables.

    The looker has the fields names and free, which are now those of the place that
    it comes to. It looks at the form of a body (check_body), at a row (look_at_row),
    and at an end (look_at_end), of which it tells for each body in it the kinds of
    the names that this binds. Bodies may be nested however deep.
    """
    pending = [(body, place, names, len(names), (), free)]
    while pending:
        body, place, names, many, more, free = pending.pop()
        # The list goes on growing in the body around; what is in scope here is its beginning.
        looker.names = names[:many] + list(more)
        looker.free = free
        looker.check_body(body, place)
        for at, row in enumerate(body[0]):
            looker.look_at_row(row, place + (0, at))
        bound = looker.look_at_end(body[1], place + (1,))
        for (path, inner), kinds in reversed(list(zip(inner_bodies(body[1]), bound))):
            inside = place + (1,) + path
            pending.append((inner, inside, looker.names, len(looker.names), kinds, looker.free))


def remade_body(maker, body, scope):
    """A body made anew: its rows and end by the maker, and likewise the bodies in its end.

    maker.rows_and_end(body, scope) tells the tuple of the rows, the end, and for each
    body in the end the scope that stands there. It is asked body by body, a body ahead
    of those in its end, and these from left to right. Bodies may be nested however deep.
    """
    made = []
    pending = [(body, scope)]
    while pending:
        body, scope = pending.pop()
        rows, end, scopes = maker.rows_and_end(body, scope)
        made.append((rows, end, len(scopes)))
        inner = [part for _, part in inner_bodies(body[1])]
        pending.extend(list(reversed(list(zip(inner, scopes)))))
    done = []
    for rows, end, many in reversed(made):
        bodies = [done.pop() for _ in range(many)]
        done.append((rows, _with_bodies(end, bodies)))
    return done[0]


def _with_bodies(end, bodies):
    if end[0] == "when":
        return end[:2] + tuple(bodies)
    return end[:2] + (tuple(bodies),) if end[0] == "match" else end
