"""Commands of the console as texts."""

from kindscarried.errors import InvalidCommand, InvalidPart
from kindscarried.integers import is_index
from kindscarried.source import DIGITS, SMALL_LETTERS

MOST_LETTERS = 8
MOST_DIGITS = 6
# What stands behind each word, one space ahead of each piece.
COMMANDS = {
    "read": ("name", "text"), "better": ("name", "name"), "size": ("name",), "run": ("name", "number", "number"),
    "code": ("name", "name", "number"), "octets": ("name",), "load": ("name", "numbers"), "drop": ("name",),
    "names": (), "start": ("name",), "on": ("number",), "back": ("number",), "here": (), "said": (),
    "show": ("number",), "thing": ("number",), "known": (), "clear": (), "forget": (),
}


def command_told(command):
    """The tuple of the pieces of a command."""
    if type(command) is not str:
        raise InvalidCommand(0)
    return Pieces(command).told()


def command_text(pieces):
    """The command with these pieces."""
    if not _are_pieces(pieces):
        raise InvalidPart("the pieces of a command are wanted")
    texts = [pieces[0]]
    for slot, piece in zip(COMMANDS[pieces[0]], pieces[1:]):
        if slot == "numbers":
            texts.extend([str(number) for number in piece])
        else:
            texts.append(str(piece))
    return " ".join(texts)


def outcome_text(outcome):
    """An outcome as the console tells it."""
    text = "spent"
    if outcome[0] == "done":
        text = "done " + str(outcome[1])
    letters = [str(letter) for letter in outcome[-1]]
    return " ".join([text, "said"] + letters) if letters else text


class Pieces:
    """Reads a command from left to right; index is that of the next sign."""

    def __init__(self, command):
        self.command = command
        self.index = 0

    def told(self):
        word = self.first_word()
        pieces = [word]
        for slot in COMMANDS[word]:
            self.take(" ")
            pieces.append(self.piece(slot))
        if self.index < len(self.command):
            raise InvalidCommand(self.index)
        return tuple(pieces)

    def has(self, signs):
        """Whether the next sign is one of these."""
        return self.index < len(self.command) and self.command[self.index] in signs

    def take(self, signs):
        """The next sign, which is one of these."""
        if not self.has(signs):
            raise InvalidCommand(self.index)
        self.index = self.index + 1
        return self.command[self.index - 1]

    def first_word(self):
        """No word of a command begins another one."""
        word = ""
        while word not in COMMANDS:
            goes_on = [other[len(word)] for other in COMMANDS if other.startswith(word)]
            word = word + self.take(goes_on)
        return word

    def piece(self, slot):
        if slot == "name":
            return self.name()
        if slot == "number":
            return self.next_number()
        if slot == "text":
            text = self.command[self.index:]
            self.index = len(self.command)
            return text
        numbers = [self.next_number()]
        while self.has(" "):
            self.take(" ")
            numbers.append(self.next_number())
        return tuple(numbers)

    def name(self):
        name = self.take(SMALL_LETTERS)
        while len(name) < MOST_LETTERS and self.has(SMALL_LETTERS):
            name = name + self.take(SMALL_LETTERS)
        return name

    def next_number(self):
        digits = self.take(DIGITS)
        while digits != "0" and len(digits) < MOST_DIGITS and self.has(DIGITS):
            digits = digits + self.take(DIGITS)
        return int(digits)


def _are_pieces(value):
    """Whether any value is a tuple that command_told tells."""
    if type(value) is not tuple or not value or type(value[0]) is not str or value[0] not in COMMANDS:
        return False
    slots = COMMANDS[value[0]]
    if len(value) != len(slots) + 1:
        return False
    return all([_is_piece(slot, piece) for slot, piece in zip(slots, value[1:])])


def _is_piece(slot, value):
    if slot == "name":
        return _is_name(value)
    if slot == "number":
        return _is_number(value)
    if slot == "text":
        return type(value) is str
    return type(value) is tuple and len(value) > 0 and all([_is_number(number) for number in value])


def _is_name(value):
    if type(value) is not str or not 1 <= len(value) <= MOST_LETTERS:
        return False
    return all([sign in SMALL_LETTERS for sign in value])


def _is_number(value):
    return is_index(value) and len(str(value)) <= MOST_DIGITS
