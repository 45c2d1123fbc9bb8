"""What the lookers of closed and of stored programs have in common."""

from kindscarried.bodies import inner_things, look_at_body
from kindscarried.errors import IllKinded
from kindscarried.integers import is_index, is_program_integer
from kindscarried.kind_forms import MOST_VARIABLES
from kindscarried.kind_rules import INT, are_fitting, shared_rule
from kindscarried.kinds import is_kind, opened
from kindscarried.shapes import begins_with_word

# What stands behind the word of each thing, row and end, as far as it matters
# where things stand; all else belongs to the rules.
THINGS = {
    "int": ("own",), "name": ("own",), "label": ("own",), "at": ("thing", "own"),
    "hide": ("own", "thing", "own"), "fold": ("own", "thing"),
}
ROWS = {
    "thing": ("thing",), "sum": ("own", "thing", "thing"), "part": ("thing", "own"), "cell": ("thing",),
    "get": ("thing",), "set": ("thing", "thing"), "unfold": ("thing",), "open": ("thing",), "say": ("thing",),
}
ENDS = {
    "jump": ("thing", "things"), "when": ("thing", "own", "own"), "match": ("thing", "own"), "halt": ("thing",),
}


class BlockLooker:
    """Looks at a program of blocks, any value.

    words are those of its kinds, nothing is the kind of the empty row. names and
    free are those in scope at the place that it comes to, heads the kinds of the
    labels. kinds_told gets, for each thing that is a row, by its place the kinds of what
    is in it. Each level tells what stands behind its words (slots_of), and the rules
    of words that not all levels have (more_rules).
    """

    def __init__(self, program, words, nothing):
        self.program = program
        self.words = words
        self.nothing = nothing
        self.names = []
        self.free = 0
        self.heads = []
        self.kinds_told = {}

    def slots_of(self, sort, word):
        """What stands behind a word of a "row", "end" or "thing"; None if there is no such word."""

    def more_rules(self, word):
        """The rule of a word of this level; None if it has none."""

    def first_fault(self):
        """None if all rules are kept, else the place of the first fault."""
        try:
            self.look_at_all()
        except IllKinded as error:
            return error.place
        return None

    def look_at_all(self):
        """IllKinded with the place of the first fault."""
        program = self.program
        if type(program) is not tuple or len(program) != 2 or type(program[0]) is not tuple:
            raise IllKinded(())
        for number, block in enumerate(program[0]):
            _check_head(block, (0, number), self.words)
            self.heads.append(("not", block[0], block[1]))
        for number, (many, _, body) in enumerate(program[0]):
            own = tuple([("free", index) for index in range(many)])
            look_at_body(self, body, (0, number, 2), list(opened(self.heads[number], own)), many)
        look_at_body(self, program[1], (1,), [], 0)

    def check_body(self, body, place):
        if type(body) is not tuple or len(body) != 2 or type(body[0]) is not tuple:
            raise IllKinded(place)

    def look_at_row(self, row, place):
        self.names.append(self.told_of("row", row, place))

    def look_at_end(self, end, place):
        return self.told_of("end", end, place)

    def told_of(self, sort, node, place):
        """What the rule of a row, end or thing at a place tells, behind those of the things in it."""
        done = []
        pending = [(sort, node, place, None)]
        while pending:
            sort, node, place, many = pending.pop()
            if many is None:
                things = self.things_in(sort, node, place)
                pending.append((sort, node, place, len(things)))
                pending.extend([("thing", thing, place + path, None) for path, thing in reversed(things)])
                continue
            start = len(done) - many
            kinds = done[start:]
            del done[start:]
            done.append(self.rule_told(node, kinds, place))
        return done[0]

    def things_in(self, sort, node, place):
        """The things right in a row, end or thing, whose word and number of members are looked at."""
        slots = None
        if begins_with_word(node):
            slots = self.slots_of(sort, node[0])
        if slots is None or len(node) != len(slots) + 1:
            raise IllKinded(place)
        return inner_things(slots, node)

    def rule_told(self, node, kinds, place):
        rule = self.more_rules(node[0]) or _shared_rule(node[0])
        told = rule(self, node, kinds)
        if told is None:
            raise IllKinded(place)
        if node[0] == "row":
            self.kinds_told[place] = kinds
        return told


def _check_head(block, place, words):
    if type(block) is not tuple or len(block) != 3:
        raise IllKinded(place)
    many, kinds, _ = block
    if not is_index(many) or many > MOST_VARIABLES:
        raise IllKinded(place + (0,))
    if type(kinds) is not tuple:
        raise IllKinded(place + (1,))
    for index, kind in enumerate(kinds):
        if not is_kind(0, ("not", many, (kind,)), words):
            raise IllKinded(place + (1, index))


def shared_slots(sort, word):
    if sort == "thing":
        return THINGS.get(word)
    return ROWS.get(word) if sort == "row" else ENDS.get(word)


def _int_rule(looker, node, kinds):
    return INT if is_program_integer(node[1]) else None


def _name_rule(looker, node, kinds):
    number = node[1]
    return looker.names[number] if is_index(number) and number < len(looker.names) else None


def _label_rule(looker, node, kinds):
    number = node[1]
    return looker.heads[number] if is_index(number) and number < len(looker.heads) else None


def _thing_rule(looker, node, kinds):
    return kinds[0]


def _jump_rule(looker, node, kinds):
    called = kinds[0]
    if called[:2] != ("not", 0) or type(node[2]) is not tuple:
        return None
    return [] if are_fitting(kinds[1:], opened(called, ())) else None


RULES = {
    "int": _int_rule, "name": _name_rule, "label": _label_rule, "thing": _thing_rule, "jump": _jump_rule,
}


def _shared_rule(word):
    return RULES[word] if word in RULES else shared_rule(word)
