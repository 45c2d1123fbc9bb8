"""Kinds: their form, and the variables that they bind."""

from kindscarried.kind_forms import form_of

CORE_WORDS = ("cell", "int", "one", "rec", "row", "some", "to")
CLOSED_WORDS = ("cell", "int", "not", "one", "rec", "row", "some")
STORED_WORDS = ("cell", "int", "not", "one", "rec", "room", "some")
CODE_WORDS = ("cell", "code", "int", "one", "rec", "room", "some")

SHALLOW = 200


def is_kind(free, value, words):
    """Whether the value is a whole kind with these free variables and words."""
    return _is_whole(value, words, free)


def is_kind_anywhere(value, words):
    """Whether the value is a whole kind with these words, over whatever free variables."""
    return _is_whole(value, words, None)


def _is_whole(value, words, free):
    """Whether the value is a whole kind; free is None where any free variable may stand."""
    pending = [(value, 0)]
    while pending:
        kind, bound = pending.pop()
        if type(kind) is not tuple or not kind or type(kind[0]) is not str:
            return False
        word = kind[0]
        if word == "var" or word == "free":
            most = bound if word == "var" else free
            if len(kind) != 2 or type(kind[1]) is not int or kind[1] < 0 or (most is not None and kind[1] >= most):
                return False
            continue
        form = form_of(word)
        if form is None or word not in words:
            return False
        inner = form(kind)
        if inner is None:
            return False
        if inner:
            bound = bound + bound_by(kind)
            pending.extend([(part, bound) for part in inner])
    return True


def bound_by(kind):
    """How many variables a kind binds in the kinds right in it."""
    word = kind[0]
    if word == "room" or word == "row":
        return 0
    if word == "some" or word == "rec":
        return 1
    return kind[1] if word == "not" or word == "code" or word == "to" else 0


def inner_kinds(kind):
    """The tuple of the kinds right in a kind."""
    word = kind[0]
    if word == "int" or word == "free" or word == "var":
        return ()
    if word == "room":
        return tuple([place[0] for place in kind[1]])
    if word == "row" or word == "one":
        return kind[1]
    if word == "not":
        return kind[2]
    if word == "code":
        return tuple([row[1] for row in kind[2]])
    return kind[2] + (kind[3],) if word == "to" else (kind[1],)


def with_inner(kind, inner):
    """The kind with others in the places of the kinds right in it."""
    word = kind[0]
    if word in ("row", "one"):
        return (word, inner)
    if word in ("cell", "some", "rec"):
        return (word, inner[0])
    if word == "to":
        return ("to", kind[1], inner[:-1], inner[-1])
    if word == "not":
        return ("not", kind[1], inner)
    if word == "room":
        return ("room", tuple([(new, old[1]) for new, old in zip(inner, kind[1])]))
    if word == "code":
        return ("code", kind[1], _new_regs(kind, inner))
    return kind


def _new_regs(kind, inner):
    return tuple([(old[0], new) for new, old in zip(inner, kind[2])])


def _remade(whole, leaf):
    """The kind with leaf(kind, bound) in the place of each "free" and "var"."""
    return remade(whole, leaf, with_inner)


def remade(whole, leaf, node):
    """The kind made anew, part by part.

    leaf(kind, bound) stands in the place of each "free" and "var", bound being how
    many variables are bound between the whole and this place; node(kind, inner) in
    the place of each other kind, inner the tuple of what stands for the kinds in it.
    It goes without recursion: kinds of later levels are nested some hundreds deep.
    """
    done = []
    pending = [(whole, 0, None)]
    while pending:
        kind, bound, many = pending.pop()
        if many is not None:
            start = len(done) - many
            inner = tuple(done[start:])
            del done[start:]
            done.append(node(kind, inner))
        elif kind[0] == "var" or kind[0] == "free":
            done.append(leaf(kind, bound))
        else:
            inner = inner_kinds(kind)
            if not inner:
                done.append(node(kind, ()))
                continue
            pending.append((kind, bound, len(inner)))
            bound = bound + bound_by(kind)
            pending.extend([(part, bound, None) for part in reversed(inner)])
    return done[0]


def _without_first(kind, kinds):
    """The kinds right in a binder, its first variables being these kinds."""
    if not kinds:
        return inner_kinds(kind)

    def leaf(part, bound):
        if part[0] == "free" or part[1] < bound:
            return part
        index = part[1] - bound
        return kinds[index] if index < len(kinds) else ("var", part[1] - len(kinds))

    return tuple([_remade(inner, leaf) for inner in inner_kinds(kind)])


def opened(kind, kinds):
    """The inside of a binder with these kinds in the places of its variables."""
    inner = _without_first(kind, kinds)
    if kind[0] == "to":
        return (inner[:-1], inner[-1])
    if kind[0] == "not":
        return inner
    if kind[0] == "code":
        return _new_regs(kind, inner)
    return inner[0]


def opened_first(kind, kinds):
    """The "not" or "code" whose first variables are these kinds."""
    left = (kind[0], kind[1] - len(kinds), kind[2])
    return with_inner(left, _without_first(kind, kinds))


def unfolded(kind):
    """The inside of a "rec" with itself in the place of the variable."""
    return opened(kind, (kind,))


def shut(kind, order):
    """The inside of a binder whose variables these free ones become."""
    if not order:
        return kind
    indexes = {number: index for index, number in enumerate(order)}

    def leaf(part, bound):
        if part[0] == "free" and part[1] in indexes:
            return ("var", indexes[part[1]] + bound)
        return part

    return _remade(kind, leaf)


def filled(kind, kinds):
    """The kind with these kinds in the places of its free variables."""
    return with_free(kind, lambda number: kinds[number])


def as_it_is(part, bound):
    """A leaf that stays."""
    return part


def with_free(kind, told):
    """The kind with told(j) in the place of each ("free", j)."""
    def leaf(part, bound):
        return told(part[1]) if part[0] == "free" else part

    return _remade(kind, leaf)


def fits(kind, wanted):
    """Whether a thing of the kind may stand where the wanted kind is asked for."""
    if kind[0] != "room" or wanted[0] != "room":
        return are_same(kind, wanted)
    if len(kind[1]) != len(wanted[1]):
        return False
    return all([_place_fits(place, other) for place, other in zip(kind[1], wanted[1])])


def _place_fits(place, other):
    return (place[1] or not other[1]) and are_same(place[0], other[0])


def are_same(kind, other):
    """Whether two kinds are the same tuple, however deep they are nested."""
    # Python compares no deeper than the shallower one is nested, but calls itself for it.
    if is_shallow(kind) or is_shallow(other):
        return kind == other
    pending = [(kind, other)]
    while pending:
        first, second = pending.pop()
        if type(first) is tuple and type(second) is tuple:
            if len(first) != len(second):
                return False
            pending.extend(list(zip(first, second)))
        elif first != second:
            return False
    return True


def is_shallow(value):
    """Whether tuples are nested so few times that Python itself may compare them."""
    level = [value]
    for _ in range(SHALLOW):
        level = [inner for part in level for inner in part if type(inner) is tuple]
        if not level:
            return True
    return False
