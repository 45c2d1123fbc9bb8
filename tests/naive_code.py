"""The rules of the looker of code, told plainly; and right code by chance, from a seed."""

import random

from kindscarried.kinds import CODE_WORDS, fits, is_kind, opened, opened_first, unfolded
from tests.naive_lookers import SUMS, Fault, index, need

INT = ("int",)
UNIT = ("room", ())
VAR = ("var", 0)
PAIR = ("room", ((INT, True), (INT, False)))
BOTH = ("one", (INT, UNIT))
LIST = ("rec", ("one", (UNIT, ("room", ((INT, True), (VAR, True))))))
PACK = ("some", ("room", ((VAR, True), (("code", 0, ((0, VAR),)), True))))


def word_kind(code, free, regs, word):
    lengths = {"int": 2, "register": 2, "label": 2, "at": 3, "hide": 4, "fold": 3, "unfold": 2}
    need(type(word) is tuple and word and type(word[0]) is str and lengths.get(word[0]) == len(word), None)

    def written(kind):
        need(is_kind(free, kind, CODE_WORDS), None)
        return kind

    sort = word[0]
    if sort == "int":
        need(type(word[1]) is int and -2 ** 31 <= word[1] < 2 ** 31, None)
        return INT
    if sort == "register":
        need(index(word[1], code[0]) and word[1] in regs, None)
        return regs[word[1]]
    if sort == "label":
        need(index(word[1], len(code[1])), None)
        return ("code",) + code[1][word[1]][:2]
    inner = word_kind(code, free, regs, word[2] if sort in ("hide", "fold") else word[1])
    if sort == "at":
        need(type(word[2]) is tuple and inner[0] == "code" and inner[1] >= len(word[2]), None)
        return opened_first(inner, tuple(written(kind) for kind in word[2]))
    if sort == "hide":
        need(written(word[3])[0] == "some" and fits(inner, opened(word[3], (written(word[1]),))), None)
        return word[3]
    if sort == "fold":
        need(written(word[1])[0] == "rec" and fits(inner, unfolded(word[1])), None)
        return word[1]
    need(inner[0] == "rec", None)
    return unfolded(inner)


def goal(code, free, regs, word):
    kind = word_kind(code, free, regs, word)
    need(kind[:2] == ("code", 0), None)
    need(all(number in regs and fits(regs[number], wanted) for number, wanted in kind[2]), None)


def row_after(code, free, regs, row):
    """(free, the dict of what is known) behind the row; Fault of a wrong one."""
    lengths = {"move": 3, "sum": 5, "room": 3, "load": 4, "store": 4, "tagged": 5, "cell": 3, "get": 3, "set": 3, "open": 3, "say": 2, "branch": 3}
    need(type(row) is tuple and row and type(row[0]) is str and lengths.get(row[0]) == len(row), None)
    regs = dict(regs)
    word = row[0]

    def kind_of(part):
        return word_kind(code, free, regs, part)

    def written(kind):
        need(is_kind(free, kind, CODE_WORDS), None)
        return kind

    if word == "say":
        need(kind_of(row[1]) == INT, None)
        return free, regs
    if word == "branch":
        need(kind_of(row[1]) == INT, None)
        goal(code, free, regs, row[2])
        return free, regs
    r = row[2] if word == "sum" else row[1]
    need(index(r, code[0]), None)
    if word == "move":
        new = kind_of(row[2])
    elif word == "sum":
        need(type(row[1]) is str and row[1] in SUMS and kind_of(row[3]) == INT and kind_of(row[4]) == INT, None)
        new = INT
    elif word == "room":
        need(type(row[2]) is tuple, None)
        new = ("room", tuple((written(kind), False) for kind in row[2]))
    elif word == "load":
        kind = kind_of(row[2])
        need(kind[0] == "room" and index(row[3], len(kind[1])) and kind[1][row[3]][1], None)
        new = kind[1][row[3]][0]
    elif word == "store":
        need(r in regs and regs[r][0] == "room" and index(row[2], len(regs[r][1])), None)
        places = list(regs[r][1])
        need(fits(kind_of(row[3]), places[row[2]][0]), None)
        places[row[2]] = (places[row[2]][0], True)
        new = ("room", tuple(places))
    elif word == "tagged":
        need(written(row[3])[0] == "one" and index(row[2], len(row[3][1])) and fits(kind_of(row[4]), row[3][1][row[2]]), None)
        new = row[3]
    elif word == "cell":
        new = ("cell", kind_of(row[2]))
    elif word == "get":
        kind = kind_of(row[2])
        need(kind[0] == "cell", None)
        new = kind[1]
    elif word == "set":
        need(r in regs and regs[r][0] == "cell" and fits(kind_of(row[2]), regs[r][1]), None)
        new = regs[r]
    else:
        kind = kind_of(row[2])
        need(kind[0] == "some", None)
        new = opened(kind, (("free", free),))
        free += 1
    regs[r] = new
    return free, regs


def end_checked(code, free, regs, end):
    need(type(end) is tuple and end and type(end[0]) is str, None)
    if end[0] == "jump":
        need(len(end) == 2, None)
        goal(code, free, regs, end[1])
    elif end[0] == "halt":
        need(len(end) == 2 and word_kind(code, free, regs, end[1]) == INT, None)
    else:
        need(end[0] == "pick" and len(end) == 3 and index(end[1], code[0]) and end[1] in regs and type(end[2]) is tuple, None)
        one = regs[end[1]]
        need(one[0] == "one" and len(one[1]) == len(end[2]), None)
        for kind, word in zip(one[1], end[2]):
            goal(code, free, dict(list(regs.items()) + [(end[1], kind)]), word)


def code_fault(code):
    """What looked tells, plainly."""
    if not (type(code) is tuple and len(code) == 2 and type(code[0]) is int and 1 <= code[0] <= 32 and type(code[1]) is tuple):
        return ()
    if not code[1]:
        return (0,)
    for b, block in enumerate(code[1]):
        if not (type(block) is tuple and len(block) == 4 and type(block[2]) is tuple and is_kind(0, ("code",) + block[:2], CODE_WORDS)):
            return (b,)
        if any(register >= code[0] for register, _ in block[1]) or (b == 0 and block[:2] != (0, ())):
            return (b,)
    for b, (n, regs, rows, end) in enumerate(code[1]):
        free, known = n, dict(opened(("code", n, regs), tuple(("free", i) for i in range(n))))
        at = 0
        try:
            for at, row in enumerate(rows):
                free, known = row_after(code, free, known, row)
            at = len(rows)
            end_checked(code, free, known, end)
        except Fault:
            return (b, at)
    return None


HEADS = ((0, ()), (0, ((0, INT),)), (1, ((0, VAR), (1, ("cell", VAR)))), (0, ((1, PAIR), (2, BOTH))), (2, ((0, ("var", 1)), (2, ("code", 1, ((0, VAR), (1, ("var", 2))))))), (0, ((0, PACK), (3, LIST))))


class CodeMaker:
    """Code, row by row: what comes by chance and is right stays."""

    def __init__(self, seed, registers=5):
        self.rng = random.Random(seed)
        self.registers = registers
        self.code = (registers, tuple(head + ((), ("halt", ("int", 0))) for head in HEADS))

    def kind(self, free):
        sort = self.rng.randrange(9)
        if sort == 0 and free:
            return ("free", self.rng.randrange(free))
        return (INT, UNIT, PAIR, BOTH, LIST, PACK, ("cell", INT), ("room", ((INT, True), (INT, True))), ("code", 0, ((0, INT),)))[sort]

    def word(self, free, depth=2):
        sort = self.rng.randrange(10)
        if sort < 3:
            return ("int", self.rng.choice((0, 1, -1, 2 ** 31 - 1)))
        if sort < 7 or not depth:
            return ("register", self.rng.randrange(self.registers))
        if sort == 7:
            label = ("label", self.rng.randrange(len(HEADS)))
            many = self.rng.randrange(3)
            return label if self.rng.random() < 0.4 else ("at", label, tuple(self.kind(free) for _ in range(many)))
        inner = self.word(free, depth - 1)
        return self.rng.choice([("hide", self.kind(free), inner, self.rng.choice((PACK, ("some", VAR)))), ("fold", LIST, inner), ("unfold", inner)])

    def row(self, free, sort):
        r = self.rng.randrange(self.registers)
        word, other = self.word(free), self.word(free)
        if sort == "sum":
            return ("sum", self.rng.choice(SUMS), r, word, other)
        if sort == "room":
            return ("room", r, tuple(self.kind(free) for _ in range(self.rng.randrange(3))))
        if sort == "load":
            return ("load", r, word, self.rng.randrange(2))
        if sort == "store":
            return ("store", r, self.rng.randrange(2), word)
        if sort == "tagged":
            return ("tagged", r, self.rng.randrange(2), self.rng.choice((BOTH, unfolded(LIST))), word)
        if sort == "say":
            return ("say", word)
        return ("branch", word, other) if sort == "branch" else (sort, r, word)

    def end(self, free, sort):
        if sort != "pick":
            return (sort, self.word(free))
        return ("pick", self.rng.randrange(self.registers), tuple(self.word(free) for _ in range(2)))

    def block(self, head, most=12):
        free, known = head[0], dict(opened(("code",) + head, tuple(("free", i) for i in range(head[0]))))
        rows = []
        for _ in range(most):
            sort = self.rng.choice(("move", "sum", "room", "load", "store", "store", "tagged", "cell", "get", "set", "open", "say", "branch"))
            for _ in range(60):
                row = self.row(free, sort)
                try:
                    free, known = row_after(self.code, free, known, row)
                    rows.append(row)
                    break
                except Fault:
                    pass
        sort = self.rng.choice(("jump", "pick", "pick", "halt"))
        for _ in range(300):
            end = self.end(free, sort)
            try:
                end_checked(self.code, free, known, end)
                return head + (tuple(rows), end)
            except Fault:
                pass
        return head + (tuple(rows), ("halt", ("int", 7)))

    def made(self):
        return (self.registers, tuple(self.block(head) for head in HEADS))
