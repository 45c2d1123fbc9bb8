"""Rows, ends and things with other names in them."""

from kindscarried.bodies import inner_things, with_things


def with_names(slots_of, sort, node, name_told):
    """The row, end or thing with ("name", name_told(i)) in the place of each ("name", i), the bodies in it aside.

    slots_of(sort, word) tells what stands behind a word of a "row", "end" or "thing".
    Things may be nested however deep.
    """
    done = []
    pending = [(sort, node, None)]
    while pending:
        sort, node, many = pending.pop()
        if sort == "thing" and node[0] == "name":
            done.append(("name", name_told(node[1])))
            continue
        slots = slots_of(sort, node[0])
        if many is None:
            things = [thing for _, thing in inner_things(slots, node)]
            pending.append((sort, node, len(things)))
            pending.extend([("thing", thing, None) for thing in reversed(things)])
            continue
        start = len(done) - many
        things = done[start:]
        del done[start:]
        done.append(with_things(slots, node, things))
    return done[0]
