"""The looker of code."""

from kindscarried.errors import IllKinded
from kindscarried.integers import is_index
from kindscarried.kind_rules import INT, kind_at, new_room, shared_rule, with_put
from kindscarried.kinds import CODE_WORDS, is_kind, opened
from kindscarried.shapes import begins_with_word
from kindscarried.words import Known

MOST_REGISTERS = 32
# What stands behind the word of each row: a register that gets a kind, one that must be known
# and gets one, words; all else belongs to the rules.
ROWS = {
    "move": ("register", "word"),
    "sum": ("own", "register", "word", "word"),
    "room": ("register", "own"),
    "load": ("register", "word", "own"),
    "store": ("known", "own", "word"),
    "tagged": ("register", "own", "own", "word"),
    "cell": ("register", "word"),
    "get": ("register", "word"),
    "set": ("known", "word"),
    "open": ("register", "word"),
    "say": ("word",),
    "branch": ("word", "word"),
}


def after_row(code, free, regs, row):
    """The tuple (free, regs) of what is known behind a row, any value; IllKinded if it is not right."""
    known = Known(code, free, regs)
    if not _goes_on(known, row):
        raise IllKinded(())
    return (known.free, known.regs())


def check_end(code, free, regs, end):
    """IllKinded unless an end, any value, is right."""
    if not _ends(Known(code, free, regs), end):
        raise IllKinded(())


def looked(code):
    """None if any value is code all of whose rows and ends are right, else the place of the first fault."""
    place = heads_fault(code)
    return rows_fault(code, 0) if place is None else place


def heads_fault(code):
    """The place of the first fault of any value as code that is no fault of a row or end, None without one."""
    if type(code) is not tuple or len(code) != 2 or type(code[1]) is not tuple:
        return ()
    registers, blocks = code
    if not is_many_registers(registers):
        return ()
    if not blocks:
        return (0,)
    for number, block in enumerate(blocks):
        if not is_block(block, registers) or (number == 0 and block[:2] != (0, ())):
            return (number,)
    return None


def rows_fault(code, first):
    """The place of the first fault of the rows and ends of the blocks from this one on; all heads are right."""
    for number, block in enumerate(code[1][first:]):
        row = _first_fault(code, block)
        if row is not None:
            return (first + number, row)
    return None


def is_many_registers(value):
    return is_index(value) and 0 < value <= MOST_REGISTERS


def is_head(many, regs, registers):
    """Whether any two values are a head of a block of code that has so many registers."""
    if not is_kind(0, ("code", many, regs), CODE_WORDS):
        return False
    return all([number < registers for number, _ in regs])


def is_block(value, registers):
    """Whether any value is a block with a right head and a tuple of rows."""
    if type(value) is not tuple or len(value) != 4 or type(value[2]) is not tuple:
        return False
    return is_head(value[0], value[1], registers)


def _first_fault(code, block):
    """The index of the first row of a block that is not right, the end being one more; None if all are."""
    many, regs, rows, end = block
    known = Known(code, many, known_at_first(many, regs))
    for index, row in enumerate(rows):
        if not _goes_on(known, row):
            return index
    return None if _ends(known, end) else len(rows)


def known_at_first(many, regs):
    """The regs that are known at the beginning of a block with this head."""
    own = tuple([("free", index) for index in range(many)])
    return opened(("code", many, regs), own)


def _goes_on(known, row):
    """Whether a row is right; what is known becomes what is known behind it."""
    if not begins_with_word(row) or row[0] not in ROWS:
        return False
    slots = ROWS[row[0]]
    if len(row) != len(slots) + 1:
        return False
    target = None
    kinds = []
    for slot, member in zip(slots, row[1:]):
        if slot == "word":
            kinds.append(known.kind_of(member))
        elif slot == "known":
            kinds.append(known.kind_of_register(member))
        if slot in ("register", "known"):
            if not known.is_register(member):
                return False
            target = member
    if None in kinds:
        return False
    rule = RULES[row[0]] if row[0] in RULES else shared_rule(row[0])
    kind = rule(known, row, kinds)
    if kind is not None and target is not None:
        known.kinds[target] = kind
    return kind is not None


def _move_rule(known, row, kinds):
    return kinds[0]


def _room_rule(known, row, kinds):
    return new_room(known, row[2])


def _load_rule(known, row, kinds):
    return kind_at(kinds[0], row[3])


def _store_rule(known, row, kinds):
    room, held = kinds
    return with_put(room, row[2], held)


def _tagged_rule(known, row, kinds):
    rule = shared_rule("tag")
    return rule(known, ("tag",) + row[2:], kinds)


def _set_rule(known, row, kinds):
    """The register keeps its kind."""
    rule = shared_rule("set")
    return None if rule(known, row, kinds) is None else kinds[0]


def _branch_rule(known, row, kinds):
    asked, goal = kinds
    return known.nothing if asked == INT and known.is_goal(goal) else None


RULES = {
    "move": _move_rule, "room": _room_rule, "load": _load_rule, "store": _store_rule, "tagged": _tagged_rule,
    "set": _set_rule, "branch": _branch_rule,
}


def _ends(known, end):
    """Whether any value is an end that is right."""
    if not begins_with_word(end) or len(end) < 2:
        return False
    if end[0] == "jump":
        return len(end) == 2 and known.is_goal(known.kind_of(end[1]))
    if end[0] == "halt":
        return len(end) == 2 and known.kind_of(end[1]) == INT
    return end[0] == "pick" and len(end) == 3 and _picks(known, end[1], end[2])


def _picks(known, number, words):
    """Whether each word is a goal when the register with this number has the kind of its index."""
    one = known.kind_of_register(number)
    if one is None or one[0] != "one" or type(words) is not tuple or len(words) != len(one[1]):
        return False
    for kind, word in zip(one[1], words):
        known.kinds[number] = kind
        if not known.is_goal(known.kind_of(word)):
            return False
    return True
