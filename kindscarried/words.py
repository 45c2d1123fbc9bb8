"""The words of code, and what the looker knows where they stand."""

from kindscarried.integers import is_index, is_program_integer
from kindscarried.kind_rules import INT, shared_rule
from kindscarried.kinds import CODE_WORDS, fits
from kindscarried.shapes import begins_with_word

# How many members a word has that has another one in it, and which member this is.
AROUND = {"at": (3, 1), "hide": (4, 2), "fold": (3, 2), "unfold": (2, 1)}


def innermost(word):
    """The integer, register or label in a right word."""
    while word[0] in AROUND:
        word = word[AROUND[word[0]][1]]
    return word


def with_innermost(word, other):
    """A right word with another one in the place of the integer, register or label in it."""
    around = []
    while word[0] in AROUND:
        around.append(word)
        word = word[AROUND[word[0]][1]]
    for outer in reversed(around):
        at = AROUND[outer[0]][1]
        other = outer[:at] + (other,) + outer[at + 1:]
    return other


class Known:
    """What is known at one place of code, whose heads are right.

    free is how many kind variables are in scope, kinds leads from each register of
    which something is known to its kind; words are those of kinds.
    """

    def __init__(self, code, free, regs):
        self.code = code
        self.free = free
        self.kinds = {number: kind for number, kind in regs}
        self.words = CODE_WORDS
        self.nothing = ("room", ())

    def regs(self):
        return tuple([(number, self.kinds[number]) for number in sorted(self.kinds)])

    def is_register(self, value):
        return is_index(value) and value < self.code[0]

    def kind_of_register(self, value):
        """The kind of a register, any value; None if there is none, or nothing is known of it."""
        return self.kinds.get(value) if self.is_register(value) else None

    def kind_of(self, word):
        """The kind of any value as a word; None if it is none, or not right here."""
        around = []
        while begins_with_word(word) and word[0] in AROUND:
            many, index = AROUND[word[0]]
            if len(word) != many:
                return None
            around.append(word)
            word = word[index]
        kind = self.kind_of_innermost(word)
        for outer in reversed(around):
            rule = shared_rule(outer[0])
            kind = None if kind is None else rule(self, outer, [kind])
        return kind

    def kind_of_innermost(self, word):
        if not begins_with_word(word) or len(word) != 2:
            return None
        sort, value = word
        if sort == "int":
            return INT if is_program_integer(value) else None
        if sort == "register":
            return self.kind_of_register(value)
        if sort == "label" and is_index(value) and value < len(self.code[1]):
            return ("code",) + self.code[1][value][:2]
        return None

    def is_goal(self, kind):
        """Whether a run may go on at what has this kind (None of no right word) when things stand so."""
        if kind is None or kind[:2] != ("code", 0):
            return False
        return all([self.has_fitting(number, wanted) for number, wanted in kind[2]])

    def has_fitting(self, number, wanted):
        kind = self.kinds.get(number)
        return kind is not None and fits(kind, wanted)
