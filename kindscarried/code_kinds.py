"""The kinds of code that kinds of the stored level become."""

from kindscarried.kinds import as_it_is, remade, with_inner


def carried_down(kind):
    return remade(kind, as_it_is, _node)


def _node(kind, inner):
    if kind[0] == "not":
        return ("code", kind[1], tuple(list(enumerate(inner))))
    return with_inner(kind, inner)


def head_of(many, kinds):
    """The regs of the head of the block that a block with these kinds becomes."""
    return carried_down(("not", many, kinds))[2]
