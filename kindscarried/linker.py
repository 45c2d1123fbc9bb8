"""Parts of code, and the code that they are when put together."""

from kindscarried.errors import IllKinded, InvalidPart, NotMet, Twice
from kindscarried.integers import is_index
from kindscarried.kinds import are_same
from kindscarried.looker import ROWS, is_block, is_head, is_many_registers, rows_fault
from kindscarried.words import innermost, with_innermost

LETTERS = "abcdefghijklmnopqrstuvwxyz"
MOST_LETTERS = 12
MAIN = "main"
MAIN_HEAD = (0, ())


def looked_part(part):
    """None if the heads and blocks of a part are right, else the place of the first fault.

    Asks are counted as blocks ahead of its own.
    """
    _check_part(part)
    registers, asks, _, blocks = part
    for number, (_, many, regs) in enumerate(asks):
        if not is_head(many, regs, registers):
            return (number,)
    for number, block in enumerate(blocks):
        if not is_block(block, registers):
            return (len(asks) + number,)
    heads = tuple([(many, regs) for _, many, regs in asks])
    return rows_fault((registers, heads + blocks), len(asks))


def linked(parts):
    """The code that parts are, which begins at the main that one of them gives."""
    if type(parts) is not tuple:
        raise InvalidPart("a tuple of parts is wanted")
    for part in parts:
        place = looked_part(part)
        if place is not None:
            raise IllKinded(place)
    labels, heads = _given(parts)
    if heads.get(MAIN) != MAIN_HEAD:
        raise NotMet(MAIN)
    for _, asks, _, _ in parts:
        for name, many, regs in asks:
            if name not in heads or not are_same(heads[name], (many, regs)):
                raise NotMet(name)
    linked_blocks = [MAIN_HEAD + ((), ("jump", ("label", labels[MAIN])))]
    for _, asks, _, blocks in parts:
        order = [labels[name] for name, _, _ in asks]
        order.extend([len(linked_blocks) + number for number in range(len(blocks))])
        linked_blocks.extend([_told_anew(block, order) for block in blocks])
    return (max([part[0] for part in parts]), tuple(linked_blocks))


def _check_part(part):
    """InvalidPart of what is no part, whatever its heads and blocks may be."""
    if type(part) is not tuple or len(part) != 4 or not is_many_registers(part[0]):
        raise InvalidPart("a part has four members, and from 1 to 32 registers")
    _, asks, gives, blocks = part
    if type(blocks) is not tuple:
        raise InvalidPart("the blocks of a part are a tuple")
    if not _are_named(asks, 3) or not _are_named(gives, 2):
        raise InvalidPart("what a part asks and gives has names, ascending")
    if not all([is_index(number) and number < len(blocks) for _, number in gives]):
        raise InvalidPart("a part gives blocks of its own")


def _are_named(rows, many):
    """Whether a value is a tuple of tuples of so many members, which begin with ascending names."""
    if type(rows) is not tuple:
        return False
    before = ""
    for row in rows:
        if type(row) is not tuple or len(row) != many or not _is_name(row[0]) or row[0] <= before:
            return False
        before = row[0]
    return True


def _is_name(value):
    if type(value) is not str or not 1 <= len(value) <= MOST_LETTERS:
        return False
    return all([sign in LETTERS for sign in value])


def _given(parts):
    """The dicts from each name that a part gives to the label that its block gets, and to the head of this."""
    labels = {}
    heads = {}
    first = 1
    for _, _, gives, blocks in parts:
        for name, number in gives:
            if name in labels:
                raise Twice(name)
            labels[name] = first + number
            heads[name] = blocks[number][:2]
        first = first + len(blocks)
    return (labels, heads)


def _told_anew(block, order):
    """The block with other labels, order being the list of those that its labels become."""
    many, regs, rows, end = block
    new_rows = []
    for row in rows:
        members = [row[0]]
        for slot, member in zip(ROWS[row[0]], row[1:]):
            members.append(_new_word(member, order) if slot == "word" else member)
        new_rows.append(tuple(members))
    last = end[-1]
    new_last = tuple([_new_word(word, order) for word in last]) if end[0] == "pick" else _new_word(last, order)
    return (many, regs, tuple(new_rows), end[:-1] + (new_last,))


def _new_word(word, order):
    sort, number = innermost(word)
    return with_innermost(word, ("label", order[number])) if sort == "label" else word
