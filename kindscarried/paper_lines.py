"""The lines of papers: what is known, and what is read, ahead of each row and end."""

from kindscarried.errors import IllKinded
from kindscarried.integers import is_integer
from kindscarried.kinds import is_shallow
from kindscarried.looker import ROWS, after_row, check_end, known_at_first
from kindscarried.words import Known, innermost


def first_wrong(code, paper):
    """The index of the first line of any value that is not as it should be; None of a right paper.

    The heads of the code are right.
    """
    if type(paper) is not tuple:
        return 0
    index = 0
    for many, regs, rows, end in code[1]:
        checker = LineChecker(code, (many, known_at_first(many, regs)))
        for row in list(rows) + [None]:
            if index == len(paper) or not checker.lets_by(paper[index]):
                return index
            checker.go_on(paper[index], row)
            index = index + 1
        if not _ends_right(code, paper[index - 1], end):
            return index - 1
    return None if index == len(paper) else index


def _ends_right(code, line, end):
    free, regs = line
    try:
        check_end(code, free, regs, end)
    except IllKinded:
        return False
    return True


class LineChecker:
    """Goes down the lines of a block.

    free and kinds are what may stand in the next line: how many kind variables, and the
    kind of each register; free is None if no line may stand there. texts has what kinds
    look like, of those that were asked for.
    """

    def __init__(self, code, line):
        self.code = code
        self.free, regs = line
        self.kinds = {number: kind for number, kind in regs}
        self.texts = {}

    def lets_by(self, value):
        """Whether any value is a line with this free, and some of these registers."""
        if type(value) is not tuple or len(value) != 2 or type(value[1]) is not tuple:
            return False
        if not is_integer(value[0]) or value[0] != self.free:
            return False
        last = -1
        for reg in value[1]:
            if type(reg) is not tuple or len(reg) != 2 or not is_integer(reg[0]) or reg[0] <= last:
                return False
            if reg[0] not in self.kinds or not self.is_just(reg[1], reg[0]):
                return False
            last = reg[0]
        return True

    def is_just(self, value, number):
        """Whether any value is just the kind of a register; True is not 1 here."""
        kind = self.kinds[number]
        if number not in self.texts:
            self.texts[number] = repr(kind) if is_shallow(kind) else None
        if self.texts[number] is None:
            return _is_just(value, kind)
        return value == kind and repr(value) == self.texts[number]

    def go_on(self, line, row):
        """Comes behind a row, of what the line ahead of it tells."""
        free, regs = line
        try:
            self.free, regs = after_row(self.code, free, regs, row)
        except IllKinded:
            self.free = None
            return
        self.kinds = {number: kind for number, kind in regs}
        for slot, member in zip(ROWS[row[0]], row[1:]):
            if slot in ("register", "known"):
                self.texts.pop(member, None)


def _is_just(value, kind):
    """Whether any value is just this kind, however deep it is nested."""
    pending = [(value, kind)]
    while pending:
        part, wanted = pending.pop()
        if type(part) is tuple and type(wanted) is tuple and len(part) == len(wanted):
            pending.extend(list(zip(part, wanted)))
        elif type(wanted) is tuple or repr(part) != repr(wanted):
            return False
    return True


def full_lines(code):
    """The lines of the paper of right code that leaves out nothing."""
    lines = []
    for many, regs, rows, _ in code[1]:
        line = (many, known_at_first(many, regs))
        lines.append(line)
        for row in rows:
            free, known = line
            line = after_row(code, free, known, row)
            lines.append(line)
    return tuple(lines)


def least_lines(code, lines):
    """The lines that leave out most, of those that leave out nothing."""
    told = []
    index = len(lines)
    for _, _, rows, end in reversed(code[1]):
        index = index - 1
        read = _read_at_end(code, lines[index], end)
        told.append(_with_read(lines[index], read))
        for row in reversed(rows):
            index = index - 1
            read = _read_ahead(code, lines[index], row, read)
            told.append(_with_read(lines[index], read))
    told.reverse()
    return tuple(told)


def _with_read(line, read):
    free, regs = line
    return (free, tuple([reg for reg in regs if reg[0] in read]))


def _read_ahead(code, line, row, behind):
    """The dict of the registers that are read ahead of a row, of those behind it."""
    free, regs = line
    read = dict(behind)
    for slot, member in zip(ROWS[row[0]], row[1:]):
        if slot == "register":
            read.pop(member, None)
    for slot, member in zip(ROWS[row[0]], row[1:]):
        if slot == "known":
            read[member] = True
        elif slot == "word":
            _add_read(read, member)
    if row[0] == "branch":
        _add_wanted(read, Known(code, free, regs), row[2])
    return read


def _read_at_end(code, line, end):
    free, regs = line
    known = Known(code, free, regs)
    read = {}
    if end[0] == "pick":
        _, number, words = end
        one = known.kinds[number]
        for kind, word in zip(one[1], words):
            known.kinds[number] = kind
            _add_read(read, word)
            _add_wanted(read, known, word)
        read[number] = True
        return read
    _add_read(read, end[1])
    if end[0] == "jump":
        _add_wanted(read, known, end[1])
    return read


def _add_read(read, word):
    """Adds the register that a word reads, if it reads one."""
    sort, number = innermost(word)
    if sort == "register":
        read[number] = True


def _add_wanted(read, known, goal):
    """Adds the registers that the kind of a goal tells."""
    _, _, regs = known.kind_of(goal)
    for number, _ in regs:
        read[number] = True
