import random
import time
import unittest

from kindscarried.closed import closed_judged
from kindscarried.closed_runs import run_closed
from kindscarried.closing import closed_of
from kindscarried.errors import IllKinded
from kindscarried.kinds import CLOSED_WORDS, STORED_WORDS, filled, is_kind, opened, shut, unfolded
from kindscarried.source_texts import source_told
from kindscarried.stored import run_stored, stored_judged
from kindscarried.storing import stored_kind_of, stored_of
from kindscarried.to_core import to_core
from kindscarried.to_turns import to_turns
from tests.common import STRANGE, Case
from tests.naive_steps import naive_stored_of
from tests.programs import cores
from tests.random_core import CoreMaker
from tests.test_kinds import random_kind

INT = ("int",)
VAR = ("var", 0)
FREE = ("free", 0)
ONE = ("int", 1)
TWO = ("int", 2)
HALT = ("halt", ONE)
EMPTY = ((), HALT)
ROW = ("row", ())
UNIT = ("room", ())
BLOCKS = ((0, (INT,), EMPTY), (2, (VAR, ("var", 1)), EMPTY))


def name(k):
    return ("name", k)


class Kinds(Case):
    def test_each_word(self):
        for kind, wanted in [
                (INT, INT), (FREE, FREE), (ROW, UNIT), (("row", (INT, ROW)), ("room", ((INT, True), (UNIT, True)))), (("one", (ROW, INT)), ("one", (UNIT, INT))), (("cell", ROW), ("cell", UNIT)),
                (("some", ("row", (VAR,))), ("some", ("room", ((VAR, True),)))), (("rec", ("row", (INT, VAR))), ("rec", ("room", ((INT, True), (VAR, True))))),
                (("not", 2, (("var", 1), ROW)), ("not", 2, (("var", 1), UNIT))), (("row", (("row", (("row", (ROW,)),)),)), ("room", ((("room", ((("room", ((UNIT, True),)), True),)), True),)))]:
            self.assertEqual(stored_kind_of(kind), wanted)
            self.assertEqual(stored_kind_of(kind=kind), wanted)

    def test_facts(self):
        rng = random.Random(5)
        for _ in range(800):
            kind = random_kind(rng, 3, 0, 4, CLOSED_WORDS)
            told = stored_kind_of(kind)
            self.assertTrue(is_kind(3, told, STORED_WORDS))
            kinds = tuple(random_kind(rng, 3, 0, 2, CLOSED_WORDS) for _ in range(3))
            self.assertEqual(stored_kind_of(filled(kind, kinds)), filled(told, tuple(stored_kind_of(other) for other in kinds)))
            some = ("some", shut(kind, (1,)))
            self.assertEqual(stored_kind_of(opened(some, kinds[:1])), opened(stored_kind_of(some), (stored_kind_of(kinds[0]),)))
            rec = ("rec", ("row", (shut(kind, (1,)),)))
            self.assertEqual(stored_kind_of(unfolded(rec)), unfolded(stored_kind_of(rec)))


class StoredOf(Case):
    def becomes(self, rows, end, new_rows, new_end):
        """What becomes of a body, in the program's own, in a block's, and in the bodies of ends."""
        body, new = (rows, end), (new_rows, new_end)
        for program, wanted in [((BLOCKS, body), (BLOCKS, new)), ((BLOCKS + ((0, (), body),), EMPTY), (BLOCKS + ((0, (), new),), EMPTY)),
                                ((BLOCKS, ((), ("when", ONE, body, body))), (BLOCKS, ((), ("when", ONE, new, new))))]:
            self.assertIsNone(closed_judged(program))
            self.assertEqual(stored_of(program), wanted)
            self.assertEqual(stored_of(program=program), wanted)
            self.assertIsNone(stored_judged(wanted))

    def test_rows(self):
        self.becomes((("thing", ("row", (ONE, ROW))), ("part", name(0), 0)), ("halt", name(1)),
                     (("room", ()), ("room", (INT, UNIT)), ("put", name(1), 0, ONE), ("put", name(2), 1, name(0)), ("thing", name(3)), ("part", name(4), 0)), ("halt", name(5)))
        self.becomes((("thing", ROW),), HALT, (("room", ()), ("thing", name(0))), HALT)
        # Things first, from left to right, then the room, then the puts.
        inner = ("row", (("row", (ONE,)), TWO, ("row", (ROW,))))
        self.becomes((("cell", inner),), HALT,
                     (("room", (INT,)), ("put", name(0), 0, ONE), ("room", ()), ("room", (UNIT,)), ("put", name(3), 0, name(2)), ("room", (("room", ((INT, True),)), INT, ("room", ((UNIT, True),)))),
                      ("put", name(5), 0, name(1)), ("put", name(6), 1, TWO), ("put", name(7), 2, name(4)), ("cell", name(8))), HALT)

    def test_tags(self):
        one = ("one", (INT, ("row", (INT,))))
        new = ("one", (INT, ("room", ((INT, True),))))
        self.becomes((("thing", ("tag", 0, one, ONE)),), HALT, (("tagged", 0, new, ONE), ("thing", name(0))), HALT)
        self.becomes((("say", ONE), ("cell", ("tag", 1, one, ("row", (TWO,)))),), HALT, (("say", ONE), ("room", (INT,)), ("put", name(1), 0, TWO), ("tagged", 1, new, name(2)), ("cell", name(3))), HALT)

    def test_other_things(self):
        some = ("some", ("row", (VAR, VAR)))
        new = ("some", ("room", ((VAR, True), (VAR, True))))
        rec = ("rec", ("one", (ROW, VAR)))
        new_rec = ("rec", ("one", (UNIT, VAR)))
        self.becomes((("thing", ("label", 1)), ("thing", ("at", name(0), (ROW,))), ("thing", ("at", ("at", name(1), ()), (INT,)))), HALT,
                     (("thing", ("label", 1)), ("thing", ("at", name(0), (UNIT,))), ("thing", ("at", ("at", name(1), ()), (INT,)))), HALT)
        self.becomes((("thing", ("hide", ROW, ("row", (ROW, ROW)), some)),), HALT,
                     (("room", ()), ("room", ()), ("room", (UNIT, UNIT)), ("put", name(2), 0, name(0)), ("put", name(3), 1, name(1)), ("thing", ("hide", UNIT, name(4), new))), HALT)
        self.becomes((("thing", ("fold", rec, ("tag", 0, ("one", (ROW, rec)), ROW))), ("unfold", name(0))), HALT,
                     (("room", ()), ("tagged", 0, ("one", (UNIT, new_rec)), name(0)), ("thing", ("fold", new_rec, name(1))), ("unfold", name(2))), HALT)

    def test_rows_stay_with_names_counted_anew(self):
        rows = (("thing", ROW), ("sum", "less", ONE, TWO), ("say", name(1)), ("cell", name(1)), ("set", name(3), ("int", 5)), ("get", name(3)), ("cell", ("row", (name(5),))), ("get", name(6)), ("part", name(7), 0),
                ("set", name(6), ("row", (name(8),))))
        new = (("room", ()), ("thing", name(0)), ("sum", "less", ONE, TWO), ("say", name(2)), ("cell", name(2)), ("set", name(4), ("int", 5)), ("get", name(4)),
               ("room", (INT,)), ("put", name(7), 0, name(6)), ("cell", name(8)), ("get", name(9)), ("part", name(10), 0), ("room", (INT,)), ("put", name(12), 0, name(11)), ("set", name(9), name(13)))
        self.becomes(rows, ("halt", name(8)), new, ("halt", name(11)))

    def test_ends(self):
        one = ("one", (INT, ROW))
        new = ("one", (INT, UNIT))
        self.becomes((), ("match", ("tag", 1, one, ROW), (((), ("halt", name(0))), ((("cell", name(0)),), HALT))),
                     (("room", ()), ("tagged", 1, new, name(0))), ("match", name(1), (((), ("halt", name(2))), ((("cell", name(2)),), HALT))))
        self.becomes((("say", ONE),), ("jump", ("at", ("label", 1), (ROW, ("row", (INT,)))), (ROW, ("row", (ONE,)))),
                     (("say", ONE), ("room", ()), ("room", (INT,)), ("put", name(2), 0, ONE)), ("jump", ("at", ("label", 1), (UNIT, ("room", ((INT, True),)))), (name(1), name(3))))
        self.becomes((("thing", ONE),), ("when", name(0), ((("thing", ROW), ("say", name(0))), ("halt", name(0))), ((("cell", ROW), ("get", name(1))), HALT)),
                     (("thing", ONE),), ("when", name(0), ((("room", ()), ("thing", name(1)), ("say", name(0))), ("halt", name(0))), ((("room", ()), ("cell", name(1)), ("get", name(2))), HALT)))
        # Behind a match in a body whose names have moved.
        self.becomes((("thing", ROW),), ("match", ("tag", 0, one, ONE), (((("sum", "add", name(1), ONE),), ("halt", name(2))), EMPTY)),
                     (("room", ()), ("thing", name(0)), ("tagged", 0, new, ONE)), ("match", name(2), (((("sum", "add", name(3), ONE),), ("halt", name(4))), EMPTY)))

    def test_blocks(self):
        block = (2, (("row", (VAR, ("var", 1))), INT, ("cell", ROW)), ((("part", name(0), 1), ("thing", ("row", (name(3), name(0)))), ("say", name(1))), ("halt", name(1))))
        wide = ("room", ((FREE, True), (("free", 1), True)))
        wanted = (2, (("room", ((VAR, True), (("var", 1), True))), INT, ("cell", UNIT)),
                  ((("part", name(0), 1), ("room", (("free", 1), wide)), ("put", name(4), 0, name(3)), ("put", name(5), 1, name(0)), ("thing", name(6)), ("say", name(1))), ("halt", name(1))))
        self.assertEqual(stored_of(((block, block), EMPTY)), ((wanted, wanted), EMPTY))

    def alike(self, program, beats):
        before = repr(program)
        told = stored_of(program)
        self.assertEqual(told, naive_stored_of(program))
        self.assertIsNone(stored_judged(told))
        for k in beats:
            self.assertEqual(run_stored(told, k), run_closed(program, k))
        self.assertEqual(repr(program), before)
        return told

    def test_texts(self):
        for core, number, letters in cores():
            told = self.alike(closed_of(to_turns(core)), list(range(8)) + [15, 30, 1000])
            self.assertEqual(run_stored(told, 1000), ("done", number, letters))

    def test_random_programs(self):
        for seed in range(100):
            self.alike(closed_of(to_turns(CoreMaker(seed).program((8, 20, 50)[seed % 3]))), (0, 1, 2, 3, 5, 9, 40))

    def test_many_beats_and_deep_things(self):
        begun = time.time()
        program = closed_of(to_turns(to_core(source_told("fun f ( n ) = if n then 1 + f ( n - 1 ) else 0 in f ( 4000 )"))))
        self.assertEqual(run_stored(stored_of(program), 20000), ("done", 4000, ()))
        thing, many = ROW, 600
        for _ in range(many):
            thing = ("row", (thing,))
        told = stored_of(((), ((("thing", thing),), HALT)))
        self.assertEqual(len(told[1][0]), 2 * many + 2)
        self.assertIsNone(stored_judged(told))
        deep = EMPTY
        for _ in range(1500):
            deep = ((("cell", ROW),), ("when", ("int", 0), deep, EMPTY))
        self.assertEqual(run_stored(stored_of(((), deep)), 1500), ("done", 1, ()))
        self.assertLess(time.time() - begun, 15)

    def test_errors(self):
        for value in STRANGE:
            place = closed_judged(value)
            self.fails(IllKinded, "place", place, stored_of, value)
        self.fails(IllKinded, "place", (0, 0, 2, 0, 0, 1), stored_of, (((0, (), ((("thing", name(0)),), HALT)),), None))
        self.fails(IllKinded, "place", (1, 1), stored_of, ((), ((), ("room", ()))))


if __name__ == "__main__":
    unittest.main()
