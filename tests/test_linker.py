import itertools
import random
import unittest

from kindscarried.errors import IllKinded, InvalidPart, NotMet, Twice
from kindscarried.linker import linked, looked_part
from kindscarried.looker import looked
from kindscarried.machine import run
from tests.common import STRANGE, Case
from tests.naive_code import CodeMaker, code_fault

INT = ("int",)
VAR = ("var", 0)
ONE = ("int", 1)
HALT = ("halt", ONE)
UNIT = ("room", ())


def reg(r):
    return ("register", r)


def label(b):
    return ("label", b)


EMPTY = (0, (), (), HALT)
# Asks for a deed that doubles what register 0 holds and goes on at register 1; gives main.
NEXT = ("code", 0, ((0, INT),))
DEED = (0, ((0, INT), (1, NEXT)))
END = (0, ((0, INT),), (("say", reg(0)),), ("halt", reg(0)))
USER = (3, (("twice",) + DEED,), (("main", 0),), ((0, (), (("move", 0, ("int", 4)), ("move", 1, label(2))), ("jump", label(0))), END),)
MAKER = (2, (), (("twice", 0),), (DEED + ((("sum", "add", 0, reg(0), reg(0)),), ("jump", reg(1))),))


class Parts(Case):
    def looks(self, part, place):
        before = repr(part)
        self.assertEqual(looked_part(part), place)
        self.assertEqual(looked_part(part=part), place)
        self.assertEqual(repr(part), before)

    def no_part(self, part):
        self.fails(InvalidPart, None, None, looked_part, part)
        self.fails(InvalidPart, None, None, linked, (part,))

    def test_right_ones(self):
        for part in (USER, MAKER, (1, (), (), ()), (32, (), (), (EMPTY,)), (8, (("a", 0, ()), ("b", 1, ((7, VAR),))), (("a", 0), ("b", 0), ("main", 1)), (EMPTY, (2, ((0, ("var", 1)),), (), HALT)))):
            self.looks(part, None)

    def test_forms(self):
        for value in STRANGE:
            self.no_part(value)
        for registers in (0, 33, -1, True, None, "8", (8,), 2 ** 35):
            self.no_part((registers,) + MAKER[1:])
        self.no_part(MAKER[:3])
        self.no_part(MAKER + ((),))
        self.no_part(list(MAKER))
        for blocks in (None, [], [EMPTY], "x", 5):
            self.no_part((8, (), (), blocks))

    def test_names(self):
        ask = (0, ())
        for name in ("a", "main", "abcdefghijkl"):
            self.looks((8, ((name,) + ask,), ((name, 0),), (EMPTY,)), None)
        for name in ("", "abcdefghijklm", "A", "a1", "a b", "a_", None, 5, ("a",), "\u00e9", True):
            self.no_part((8, ((name,) + ask,), (), (EMPTY,)))
            self.no_part((8, (), ((name, 0),), (EMPTY,)))
        for asks in (None, [("a",) + ask], ("a", 0, ()), (("a", 0),), (("a", 0, (), ()),), (["a", 0, ()],), (("b",) + ask, ("a",) + ask), (("a",) + ask, ("a",) + ask), (("a", 0, ()), ("a", 1, ())), (("a",) + ask, None)):
            self.no_part((8, asks, (), (EMPTY,)))
        for gives in (None, [("a", 0)], ("a", 0), (("a",),), (("a", 0, 0),), (["a", 0],), (("b", 0), ("a", 0)), (("a", 0), ("a", 0)), (("a", 0), ("a", 1)), (("a", 0), 5)):
            self.no_part((8, (), gives, (EMPTY, EMPTY)))
        for index in (-1, 2, True, None, "0", (0,), 2 ** 35):
            self.no_part((8, (), (("a", index),), (EMPTY, EMPTY)))
        # Labels of asks are no blocks of its own.
        self.no_part((8, (("a",) + ask,), (("b", 1),), (EMPTY,)))

    def test_heads(self):
        bad = [(-1, ()), (True, ()), (10001, ()), (None, ()), (0, None), (0, []), (0, ((8, INT),)), (0, ((0, VAR),)), (0, ((0, ("free", 0)),)), (0, ((1, INT), (0, INT))), (0, ((0, ("row", ())),)), (0, ((0, INT, INT),))]
        for head in bad:
            self.looks((8, (("a", 0, ()), ("b",) + head), (), (None,)), (1,))
            self.looks((8, (("a", 0, ()),), (), (EMPTY, head + ((), HALT), None)), (2,))
            # Heads ahead of rows.
            self.looks((8, (), (), ((0, (), (None,), HALT), head + ((), HALT))), (1,))
        for block in (None, (), EMPTY[:3], EMPTY + ((),), list(EMPTY), (0, (), None, HALT), (0, (), [], HALT)):
            self.looks((8, (("a", 0, ()), ("b", 0, ())), (("g", 1),), (EMPTY, block)), (3,))
        # No block 0 is wanted.
        self.looks((8, (), (("g", 0),), ((1, ((0, VAR),), (), HALT),)), None)

    def test_rows_and_ends(self):
        say = ("say", ONE)
        for many in (0, 2):
            asks = (("a", 0, ()), ("b", 0, ((0, INT),)))[:many]
            self.looks((8, asks, (), ((0, (), (say, None), HALT), (0, (), (None,), HALT))), (many, 1))
            self.looks((8, asks, (), (EMPTY, (0, (), (say, say), ("halt", reg(0))))), (many + 1, 2))
            self.looks((8, asks, (), (EMPTY, (0, ((0, UNIT),), (say, ("say", reg(0))), None))), (many + 1, 1))

    def test_labels(self):
        asks = (("a", 0, ()), ("b", 0, ((0, INT),)), ("c", 1, ((0, VAR), (1, ("code", 0, ((0, VAR),))))))
        own = ((0, ((0, INT), (1, NEXT)), (("say", reg(0)),), ("jump", ("at", label(2), (INT,)))), (0, ((0, INT),), (), ("jump", label(1))), (0, (), (), ("jump", label(0))))
        self.looks((8, asks, (), own), None)
        self.looks((8, asks, (), own[:2] + ((0, (), (), ("jump", label(3))),)), (5, 0))
        self.looks((8, asks, (), own[:2] + ((0, (), (("move", 0, ONE),), ("jump", label(4))),)), None)
        self.looks((8, asks, (), own[:2] + ((0, (), (("move", 0, ONE),), ("jump", label(6))),)), (5, 1))
        self.looks((8, asks, (), own[:2] + ((0, (), (("move", 1, label(4)), ("move", 0, ONE)), ("jump", label(3))),)), None)

    def test_as_the_looker_tells(self):
        for seed in range(40):
            rng = random.Random(seed)
            code = CodeMaker(seed).made()
            many = rng.randrange(1, 4)
            asks = tuple(("abc"[k],) + block[:2] for k, block in enumerate(code[1][:many]))
            part = (code[0], asks, (), code[1][many:])
            self.looks(part, None)
            self.assertIsNone(code_fault(code))


class Linked(Case):
    def links(self, parts, wanted=None):
        before = repr(parts)
        told = linked(parts)
        self.assertEqual(linked(parts=parts), told)
        self.assertEqual(repr(parts), before)
        self.assertIsNone(looked(told))
        self.assertEqual(told[1][0][:3], (0, (), ()))
        self.assertEqual(told[0], max(part[0] for part in parts))
        if wanted is not None:
            self.assertEqual(told, wanted)
        return told

    def test_told(self):
        jump = (0, (), (), ("jump", label(1)))
        self.links((USER, MAKER), (3, (jump, (0, (), (("move", 0, ("int", 4)), ("move", 1, label(2))), ("jump", label(3))), END, DEED + ((("sum", "add", 0, reg(0), reg(0)),), ("jump", reg(1))))))
        self.links((MAKER, USER), (3, ((0, (), (), ("jump", label(2))), DEED + ((("sum", "add", 0, reg(0), reg(0)),), ("jump", reg(1))), (0, (), (("move", 0, ("int", 4)), ("move", 1, label(3))), ("jump", label(1))), END)))
        for parts in ((USER, MAKER), (MAKER, USER)):
            self.assertEqual(run(linked(parts), 5), ("done", 8, (8,)))
        self.links(((1, (), (("main", 1),), (EMPTY, EMPTY)),), (1, ((0, (), (), ("jump", label(2))), EMPTY, EMPTY)))

    def test_labels_everywhere(self):
        # Labels in words of each row and end, at any depth.
        some = ("some", ("code", 0, ()))
        one = ("one", (("code", 0, ()), INT))
        rows = (("move", 0, label(0)), ("move", 1, ("hide", INT, ("at", label(1), ()), some)), ("open", 1, ("hide", INT, label(0), some)), ("room", 2, (("code", 0, ()), ("code", 0, ()))), ("store", 2, 0, label(1)),
                ("tagged", 3, 0, one, label(0)), ("cell", 4, label(1)), ("set", 4, label(0)), ("branch", ("int", 0), ("at", label(1), ())), ("branch", ONE, label(0)))
        part = (5, (("ask", 0, ()),), (("main", 0),), ((0, (), rows, ("pick", 3, (label(0), label(1)))), EMPTY))
        other = (1, (), (("ask", 0),), (EMPTY,))
        told = self.links((other, part))
        text = repr(told[1][2])
        self.assertEqual((text.count(repr(label(1))), text.count(repr(label(2)))), (repr(part[3][0]).count(repr(label(0))), repr(part[3][0]).count(repr(label(1)))))
        self.assertEqual(told[1][2][2][5], ("tagged", 3, 0, one, label(1)))

    def test_a_part_may_ask_itself(self):
        part = (2, (("deed", 0, ((0, INT),)),), (("deed", 1), ("main", 0)), ((0, (), (("move", 0, ("int", 6)),), ("jump", label(0))), END))
        self.assertEqual(run(self.links((part,)), 9), ("done", 6, (6,)))

    def test_sequence_of_parts(self):
        deeds = [(3, (("k" * k,) + (0, ((0, INT),)),) if k > 1 else (), (("k" * (k + 1), 0),), ((0, ((0, INT),), (("say", reg(0)), ("sum", "add", 0, reg(0), ("int", k))), ("jump", label(0)) if k > 1 else ("halt", reg(0))),)) for k in (1, 2, 3)]
        main = (1, (("kkkk", 0, ((0, INT),)),), (("main", 0),), ((0, (), (("move", 0, ("int", 10)),), ("jump", label(0))),))
        for parts in itertools.permutations(deeds + [main]):
            self.assertEqual(run(self.links(parts), 50), ("done", 16, (10, 13, 15)))

    def test_errors_in_sequence(self):
        ill = (1, (), (("main", 0),), ((0, (), (("say", reg(0)),), HALT),))
        for value in (None, [], [USER, MAKER], "x", 5):
            self.fails(InvalidPart, None, None, linked, value)
        self.fails(InvalidPart, None, None, linked, (None, ill))
        self.fails(IllKinded, "place", (0, 0), linked, (ill, None))
        self.fails(InvalidPart, None, None, linked, (USER, MAKER, None))
        twice = (1, (), (("a", 0), ("b", 0), ("c", 0)), (EMPTY,))
        self.fails(IllKinded, "place", (0, 0), linked, (twice, twice, ill))
        self.fails(Twice, "word", "a", linked, (twice, twice))
        self.fails(Twice, "word", "b", linked, ((1, (), (("b", 0), ("d", 0)), (EMPTY,)), twice, (1, (), (("a", 0),), (EMPTY,))))
        self.fails(Twice, "word", "c", linked, ((1, (), (("c", 0),), (EMPTY,)), twice, MAKER, MAKER))
        # Ahead of what is not met.
        asking = (1, (("zz", 0, ()), ("zzz", 0, ())), (("main", 0),), (EMPTY,))
        self.fails(Twice, "word", "main", linked, (asking, asking))
        for parts in ((), (twice,), (MAKER,), ((1, (("zz", 0, ()),), (), ()),), ((1, (), (("main", 0),), ((0, ((0, INT),), (), HALT),)),), ((1, (("zz", 0, ()),), (("main", 0),), ((1, (), (), HALT),)),)):
            self.fails(NotMet, "word", "main", linked, parts)
        self.fails(NotMet, "word", "zz", linked, (asking,))
        self.fails(NotMet, "word", "zzz", linked, (asking, (1, (), (("zz", 0),), (EMPTY,))))
        self.fails(NotMet, "word", "zz", linked, (asking, (1, (("aa", 0, ()),), (), ())))
        self.fails(NotMet, "word", "aa", linked, ((1, (("aa", 0, ()),), (), ()), asking))
        # With another head.
        for head in ((0, ((0, INT),)), (0, ((0, INT), (1, UNIT))), (1, DEED[1]), (0, ((0, INT), (1, ("code", 0, ((0, UNIT),))))), (0, DEED[1] + ((2, INT),))):
            self.fails(NotMet, "word", "twice", linked, (USER, (3, (), (("twice", 0),), (head + ((), HALT),))))
        self.fails(NotMet, "word", "twice", linked, (USER,))


class Faces(Case):
    """A counter whose thing is hidden: two makings that do alike tell alike."""

    FACE = ("some", ("room", ((VAR, True), (("code", 0, ((0, VAR), (1, ("code", 0, ((0, VAR), (1, INT)))))), True))))

    def making(self, kind, first, rows):
        """Hands out a room of the hidden start and the deed that steps on and tells a number; goes on at register 1."""
        then = ("code", 0, ((0, kind), (1, INT)))
        deed = (0, ((0, kind), (1, then)), rows + (("move", 3, reg(2)), ("move", 2, reg(1)), ("move", 1, reg(3))), ("jump", reg(2)))
        head = (0, ((0, ("code", 0, ((0, self.FACE),))),))
        start = head + (first + (("room", 2, (kind, ("code",) + deed[:2])), ("store", 2, 0, reg(1)), ("store", 2, 1, label(1)), ("move", 3, reg(0)), ("move", 0, ("hide", kind, reg(2), self.FACE))), ("jump", reg(3)))
        return (4, (), (("make", 0),), (start, deed))

    def user(self):
        head = (0, ((0, ("code", 0, ((0, self.FACE),))),))
        again = (1, ((0, VAR), (1, INT), (4, ("code", 0, ((0, VAR), (1, ("code", 0, ((0, VAR), (1, INT)))))))), (("say", reg(1)),), ("halt", reg(1)))
        opens = (0, ((0, self.FACE),), (("open", 2, reg(0)), ("load", 0, reg(2), 0), ("load", 4, reg(2), 1), ("move", 1, ("at", label(4), (("free", 0),)))), ("jump", reg(4)))
        ends = (1, ((0, VAR), (1, INT)), (("say", reg(1)),), ("halt", reg(1)))
        return (5, (("make",) + head,), (("main", 0),), ((0, (), (("move", 0, label(2)),), ("jump", label(0))), opens, again, ends))

    def test_two_makings(self):
        up = self.making(INT, (("move", 1, ("int", 3)),), (("sum", "add", 0, reg(0), ONE), ("move", 2, reg(0))))
        down = self.making(("cell", INT), (("cell", 1, ("int", -3)),), (("get", 2, reg(0)), ("sum", "take", 2, reg(2), ONE), ("cell", 0, reg(2)), ("sum", "take", 2, ("int", 0), reg(2))))
        user = self.user()
        self.assertIsNone(looked_part(user))
        outcomes = []
        for making in (up, down):
            self.assertIsNone(looked_part(making))
            outcomes.append([run(linked((user, making)), beats) for beats in range(8)])
            outcomes.append([run(linked((making, user)), beats) for beats in range(8)])
        self.assertEqual(outcomes[1:], outcomes[:1] * 3)
        self.assertEqual(outcomes[0][-1], ("done", 4, (4,)))

    def test_a_part_that_looks_into_what_is_hidden(self):
        user = self.user()
        opens = user[3][1]
        nosy = opens[:2] + (opens[2][:2] + (("say", reg(0)),) + opens[2][2:], opens[3])
        part = user[:3] + (user[3][:1] + (nosy,) + user[3][2:],)
        self.assertEqual(looked_part(part), (2, 2))
        up = self.making(INT, (("move", 1, ("int", 3)),), (("move", 2, reg(0)),))
        self.fails(IllKinded, "place", (2, 2), linked, (up, part))


if __name__ == "__main__":
    unittest.main()
