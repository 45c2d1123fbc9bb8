"""The octets of code, written one behind another."""

from kindscarried.errors import InvalidPart
from kindscarried.integers import SUM_WORDS, is_index, is_program_integer
from kindscarried.octet_shapes import CODE, LISTS, MOST_DEEP, NODES, NUMBER_BOUND, PLAIN
from kindscarried.shapes import begins_with_word


class Writer:
    """Writes any value as code; InvalidPart if it has not the shape."""

    def __init__(self):
        self.octets = []

    def write_code(self, code):
        self.write_members(CODE, code, 0)

    def need(self, truth):
        if not truth:
            raise InvalidPart("a value with the shape of code is wanted")

    def write_number(self, value):
        self.need(is_index(value) and value < NUMBER_BOUND)
        while value >= 128:
            self.octets.append(128 + (value & 127))
            value = value // 128
        self.octets.append(value)

    def write_integer(self, value):
        self.need(is_program_integer(value))
        self.write_number(2 * value if value >= 0 else -2 * value - 1)

    def write_members(self, slots, value, depth):
        self.need(type(value) is tuple and len(value) == len(slots))
        for slot, member in zip(slots, value):
            self.write_member(slot, member, depth)

    def write_member(self, slot, value, depth):
        """Writes what stands there, in a kind or word that stands so deep, 0 outside of all."""
        if slot in NODES:
            self.write_node(slot, value, depth)
        elif slot in LISTS:
            self.need(type(value) is tuple)
            self.write_number(len(value))
            for member in value:
                self.write_member(LISTS[slot], member, depth)
        elif slot == "place":
            self.need(type(value) is tuple and len(value) == 2 and type(value[1]) is bool)
            self.octets.append(1 if value[1] else 0)
            self.write_node("kind", value[0], depth)
        elif slot in PLAIN:
            self.write_members(PLAIN[slot], value, depth)
        elif slot == "integer":
            self.write_integer(value)
        elif slot == "sum word":
            self.need(type(value) is str and value in SUM_WORDS)
            self.octets.append(SUM_WORDS.index(value))
        else:
            self.write_number(value)

    def write_node(self, slot, value, depth):
        """Writes a kind, word, row or end."""
        if slot in ("kind", "word"):
            depth = depth + 1
        self.need(depth <= MOST_DEEP and begins_with_word(value))
        for octet, (word, slots) in enumerate(NODES[slot]):
            if value[0] == word:
                self.octets.append(octet)
                self.write_members(slots, value[1:], depth)
                return
        self.need(False)
