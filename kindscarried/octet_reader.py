"""Code as octets tell it, read one behind another."""

from kindscarried.errors import InvalidOctets
from kindscarried.integers import SUM_WORDS, is_index
from kindscarried.octet_shapes import CODE, INTEGER_BOUND, LISTS, MOST_DEEP, MOST_GROUPS, NODES, NUMBER_BOUND, PLAIN


class Reader:
    """Reads a tuple of octets, any values; index is that of the next one."""

    def __init__(self, octets):
        self.octets = octets
        self.index = 0

    def read_code(self):
        """The code that all octets tell; InvalidOctets with the index of the first one at which none goes on."""
        code = self.read_members(CODE, 0)
        if self.index < len(self.octets):
            raise InvalidOctets(self.index)
        return code

    def next_octet(self, bound):
        """The next octet, which is below the bound."""
        if self.index == len(self.octets):
            raise InvalidOctets(self.index)
        octet = self.octets[self.index]
        if not is_index(octet) or octet >= bound:
            raise InvalidOctets(self.index)
        self.index = self.index + 1
        return octet

    def next_number(self, bound):
        """The next number, which is below the bound."""
        number = 0
        place = 1
        for group in range(MOST_GROUPS):
            # The last octet of a number is the first one without 128 more.
            octet = self.next_octet(256)
            number = number + (octet & 127) * place
            place = place * 128
            is_last = octet < 128
            is_wrong = number >= bound or (is_last and octet == 0 and group > 0)
            if is_wrong or (not is_last and group + 1 == MOST_GROUPS):
                raise InvalidOctets(self.index - 1)
            if is_last:
                break
        return number

    def next_integer(self):
        number = self.next_number(INTEGER_BOUND)
        return number // 2 if number & 1 == 0 else -(number + 1) // 2

    def read_members(self, slots, depth):
        members = []
        for slot in slots:
            members.append(self.read_member(slot, depth))
        return tuple(members)

    def read_member(self, slot, depth):
        """What stands there, in a kind or word that stands so deep, 0 outside of all."""
        if slot in NODES:
            return self.read_node(slot, depth)
        if slot in LISTS:
            members = []
            for _ in range(self.next_number(NUMBER_BOUND)):
                members.append(self.read_member(LISTS[slot], depth))
            return tuple(members)
        if slot == "place":
            is_set = self.next_octet(2) == 1
            return (self.read_node("kind", depth), is_set)
        if slot in PLAIN:
            return self.read_members(PLAIN[slot], depth)
        if slot == "integer":
            return self.next_integer()
        return SUM_WORDS[self.next_octet(len(SUM_WORDS))] if slot == "sum word" else self.next_number(NUMBER_BOUND)

    def read_node(self, slot, depth):
        """A kind, word, row or end."""
        if slot in ("kind", "word"):
            depth = depth + 1
            if depth > MOST_DEEP:
                raise InvalidOctets(self.index)
        word, slots = NODES[slot][self.next_octet(len(NODES[slot]))]
        return (word,) + self.read_members(slots, depth)
