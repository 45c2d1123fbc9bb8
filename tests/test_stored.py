import random
import time
import unittest

from kindscarried.closing import closed_of
from kindscarried.errors import IllKinded, InvalidCount
from kindscarried.stored import run_stored, stored_judged
from kindscarried.storing import stored_of
from kindscarried.to_turns import to_turns
from tests.changes import changed
from tests.common import STRANGE, Case
from tests.naive_lookers import stored_fault
from tests.programs import cores
from tests.random_core import CoreMaker

INT = ("int",)
VAR = ("var", 0)
FREE = ("free", 0)
ONE = ("int", 1)
TWO = ("int", 2)
HALT = ("halt", ONE)
EMPTY = ((), HALT)
UNIT = ("room", ())


def name(k):
    return ("name", k)


def room(*places):
    return ("room", places)


NONE = room((INT, False), (UNIT, False))
HALF = room((INT, True), (UNIT, False))
FULL = room((INT, True), (UNIT, True))
BOTH = ("one", (INT, HALF))
LIST = ("rec", ("one", (UNIT, room((INT, True), (VAR, True)))))
PACK = ("some", room((VAR, True), (("not", 0, (VAR,)), True)))
# Blocks: handed an int; handed a half set room and a cell of one; of two kinds; handed nothing.
BLOCKS = ((0, (INT,), EMPTY), (0, (HALF, ("cell", HALF)), EMPTY), (2, (VAR, room((("var", 1), True))), EMPTY), (0, (), EMPTY))
# Names: 0 an int, 1 a room not set, 2 the same half set, 3 wholly set, 4 the empty room, 5 a one, 6 a cell of a half set room, 7 a room for a block, 8 one for both, 9 a pack.
AHEAD = (("sum", "add", ONE, ONE), ("room", (INT, UNIT)), ("put", name(1), 0, ONE), ("room", ()), ("put", name(2), 1, name(3)), ("tagged", 1, BOTH, name(2)), ("cell", name(2)),
         ("room", (INT, ("not", 0, (INT,)))), ("put", name(7), 0, ONE), ("put", name(8), 1, ("label", 0)))
INTEGER, BLANK, SOME, EMPTY_ROOM, WHOLE, TAGGED, CELL, ONE_SET, PAIR = 0, 1, 2, 3, 4, 5, 6, 8, 9
N = len(AHEAD)
BAD = ("name", 99)


class Rules(Case):
    def right(self, value):
        self.assertIsNone(stored_judged(value))
        self.assertIsNone(stored_judged(value=value))

    def ill(self, place, value):
        told = stored_judged(value)
        self.assertEqual(told, place)
        self.assertIs(type(told), tuple)

    def around(self, rows, end):
        body = (rows, end)
        whole = (AHEAD + rows, end)
        return [((1,), (BLOCKS, whole), N), ((0, 4, 2), (BLOCKS + ((0, (), whole),), EMPTY), N),
                ((1, 1, 2), (BLOCKS, (AHEAD, ("when", ONE, body, EMPTY))), 0), ((1, 1, 3), (BLOCKS, (AHEAD, ("when", ONE, EMPTY, body))), 0),
                ((0, 4, 2, 1, 2, 1), (BLOCKS + ((0, (), (AHEAD, ("match", name(TAGGED), (EMPTY, body)))),), EMPTY), 0)]

    def row(self, row, place=None):
        for where, program, ahead in self.around((row,), HALT):
            if place is None:
                self.right(program)
            else:
                self.ill(where + (0, ahead) + place, program)

    def end(self, end, place=None):
        for where, program, _ in self.around((), end):
            if place is None:
                self.right(program)
            else:
                self.ill(where + (1,) + place, program)

    def test_whole_programs_and_heads(self):
        self.right(((), EMPTY))
        self.right((BLOCKS, (AHEAD, HALT)))
        for value in STRANGE:
            if not (type(value) is tuple and len(value) == 2 and type(value[0]) is tuple):
                self.ill((), value)
                self.ill((1,), ((), value))
                self.ill((0, 0, 2), (((0, (), value),), None))
            if not (type(value) is tuple and len(value) == 3):
                self.ill((0, 0), ((value,), None))
        for kind in (("row", ()), ("code", 0, ()), ("to", 0, (), INT), VAR, FREE, ("room", (INT,)), ("room", ((INT, 1),)), ("room", [(INT, True)]), None):
            self.ill((0, 1, 1, 0), (((0, (), None), (0, (kind, None), None)), None))
        for n in (-1, 10001, True, None):
            self.ill((0, 1, 0), (((0, (), None), (n, None, None)), None))
        for ks in (None, [], "int"):
            self.ill((0, 0, 1), (((0, ks, None),), None))

    def test_words_and_members(self):
        for row in [("thing", ONE), ("sum", "add", ONE, ONE), ("part", name(SOME), 0), ("cell", ONE), ("get", name(CELL)), ("set", name(CELL), name(SOME)), ("say", ONE), ("room", (INT,)),
                    ("put", name(BLANK), 0, ONE), ("tagged", 0, BOTH, ONE)]:
            self.row(row)
            self.row(row[:-1], ())
            self.row(row + (ONE,), ())
            self.row(list(row), ())
            self.row((row[0] + "s",) + row[1:], ())
        for row in [("row", ()), ("tag", 0, BOTH, ONE), ("fold", LIST, ONE), ("name", 0), ("halt", ONE), ("load", 0, ONE, 0)]:
            self.row(row, ())
        # Rows and tagged things are no things here.
        for thing in [("row", ()), ("tag", 0, BOTH, ONE), ("room", ()), ("tagged", 0, BOTH, ONE), ("put", name(BLANK), 0, ONE)]:
            self.row(("thing", thing), (1,))
            self.end(("halt", thing), (1,))
        for value in STRANGE:
            self.row(value, ())
            self.end(value, ())
            self.row(("put", value, None, BAD), (1,))
            self.row(("put", name(BLANK), None, value), (3,))
            self.row(("tagged", None, None, value), (3,))

    def test_rooms(self):
        self.row(("room", ()))
        self.row(("room", (INT, PACK, LIST, NONE, UNIT)))
        for kinds in ([INT], None, INT, (INT, None), (VAR,), (FREE,), (("row", ()),), ("int",), 5):
            self.row(("room", kinds), ())
        # The things in an own kind are not looked at as things.
        self.row(("room", (BAD,)), ())

    def test_parts(self):
        for k, index in [(SOME, 0), (WHOLE, 0), (WHOLE, 1), (PAIR, 1), (ONE_SET, 0)]:
            self.row(("part", name(k), index))
        for k, index in [(BLANK, 0), (BLANK, 1), (SOME, 1), (ONE_SET, 1), (WHOLE, 2), (EMPTY_ROOM, 0), (INTEGER, 0), (CELL, 0), (WHOLE, -1), (WHOLE, True), (WHOLE, None), (WHOLE, 10 ** 60)]:
            self.row(("part", name(k), index), ())

    def test_puts(self):
        for k, index, thing in [(BLANK, 0, ONE), (BLANK, 1, name(EMPTY_ROOM)), (SOME, 0, TWO), (WHOLE, 1, name(EMPTY_ROOM)), (PAIR, 1, ("label", 0)), (PAIR, 0, name(INTEGER))]:
            self.row(("put", name(k), index, thing))
        for k, index, thing in [(BLANK, 0, name(EMPTY_ROOM)), (BLANK, 1, ONE), (BLANK, 2, ONE), (BLANK, -1, ONE), (BLANK, False, ONE), (BLANK, None, ONE), (EMPTY_ROOM, 0, ONE), (INTEGER, 0, ONE), (PAIR, 1, ("label", 1))]:
            self.row(("put", name(k), index, thing), ())
        self.row(("put", BAD, None, BAD), (1,))
        self.row(("put", ONE, None, BAD), (3,))
        # The new name's place is set, other names keep their kinds.
        self.right((BLOCKS, (AHEAD + (("put", name(BLANK), 1, name(EMPTY_ROOM)), ("part", name(N), 1), ("put", name(N), 0, ONE), ("part", name(N + 2), 0), ("part", name(N + 2), 1)), HALT)))
        self.ill((1, 0, N + 1), (BLOCKS, (AHEAD + (("put", name(BLANK), 1, name(EMPTY_ROOM)), ("part", name(BLANK), 1)), HALT)))
        self.ill((1, 0, N + 1), (BLOCKS, (AHEAD + (("put", name(BLANK), 1, name(EMPTY_ROOM)), ("part", name(N), 0)), HALT)))
        # A place that was set stays so.
        self.right((BLOCKS, (AHEAD + (("put", name(SOME), 1, name(EMPTY_ROOM)), ("part", name(N), 0), ("part", name(N), 1)), HALT)))

    def test_what_fits(self):
        """A room may stand where less is set; not where more is, nor within another kind."""
        for k, truth in [(BLANK, False), (SOME, True), (WHOLE, True), (EMPTY_ROOM, False), (PAIR, False)]:
            place = None if truth else ()
            self.row(("set", name(CELL), name(k)), place)
            self.row(("tagged", 1, BOTH, name(k)), place)
            self.end(("jump", ("label", 1), (name(k), name(CELL))), place)
            self.row(("thing", ("hide", HALF, name(k), ("some", VAR))), None if truth else (1,))
            self.row(("thing", ("fold", ("rec", HALF), name(k))), None if truth else (1,))
        kept = (("room", (HALF,)), ("put", name(N), 0, name(WHOLE)), ("part", name(N + 1), 0), ("part", name(N + 2), 0))
        self.right((BLOCKS, (AHEAD + kept, HALT)))
        self.ill((1, 0, N + 3), (BLOCKS, (AHEAD + kept[:3] + (("part", name(N + 2), 1),), HALT)))
        self.ill((1, 0, N + 1), (BLOCKS, (AHEAD + (("room", (HALF,)), ("put", name(N), 0, name(BLANK))), HALT)))
        # A cell of a wholly set room is none of a half set one.
        self.ill((1, 1), (BLOCKS, (AHEAD + (("cell", name(WHOLE)),), ("jump", ("label", 1), (name(SOME), name(N))))))
        self.ill((1, 0, N), (BLOCKS, (AHEAD + (("tagged", 0, ("one", (room((HALF, True)),)), name(WHOLE)),), HALT)))
        self.row(("set", name(CELL), ONE), ())
        self.row(("set", name(WHOLE), ONE), ())

    def test_tagged_and_match(self):
        self.row(("tagged", 0, BOTH, ONE))
        for row in [("tagged", 0, BOTH, name(SOME)), ("tagged", 2, BOTH, ONE), ("tagged", -1, BOTH, ONE), ("tagged", True, BOTH, name(SOME)), ("tagged", 0, HALF, ONE), ("tagged", 0, None, ONE), ("tagged", 0, ("one", (INT, FREE)), ONE)]:
            self.row(row, ())
        self.right((BLOCKS, (AHEAD, ("match", name(TAGGED), (((), ("halt", name(N))), ((("part", name(N), 0),), ("halt", name(N + 1))))))))
        self.ill((1, 1, 2, 1, 0, 0), (BLOCKS, (AHEAD, ("match", name(TAGGED), (((), ("halt", name(N))), ((("part", name(N), 1),), ("halt", name(N + 1))))))))
        for end in [("match", name(TAGGED), (EMPTY,)), ("match", name(TAGGED), [EMPTY, EMPTY]), ("match", ONE, (EMPTY,)), ("match", name(SOME), (EMPTY, EMPTY))]:
            self.end(end, ())

    def test_folds_hides_opens(self):
        nil = (("tagged", 0, ("one", (UNIT, room((INT, True), (LIST, True)))), name(EMPTY_ROOM)), ("thing", ("fold", LIST, name(N))), ("unfold", name(N + 1)))
        self.right((BLOCKS, (AHEAD + nil, ("match", name(N + 2), (EMPTY, ((("part", name(N + 3), 1), ("unfold", name(N + 4))), HALT))))))
        self.row(("unfold", name(TAGGED)), ())
        packed = (("thing", ("hide", INT, name(PAIR), PACK)), ("open", name(N)), ("part", name(N + 1), 0), ("part", name(N + 1), 1))
        self.right((BLOCKS, (AHEAD + packed, ("jump", name(N + 3), (name(N + 2),)))))
        self.ill((1, 1), (BLOCKS, (AHEAD + packed, ("jump", name(N + 3), (ONE,)))))
        self.ill((1, 0, N, 1), (BLOCKS, (AHEAD + (("thing", ("hide", INT, name(ONE_SET), PACK)),), HALT)))
        self.ill((1, 0, N, 1), (BLOCKS, (AHEAD + (("thing", ("hide", UNIT, name(PAIR), PACK)),), HALT)))
        self.row(("open", name(PAIR)), ())

    def test_other_rows(self):
        self.right(((), ((("say", ONE), ("cell", name(0)), ("set", name(1), name(0)), ("set", name(1), name(2))), HALT)))
        self.ill((1, 0, 1), ((), ((("say", ONE), ("part", name(0), 0)), HALT)))
        self.right(((), ((("say", ONE), ("room", ()), ("cell", name(1)), ("set", name(2), name(0)), ("set", name(2), name(3))), HALT)))
        for k in (BLANK, SOME, EMPTY_ROOM, TAGGED, CELL):
            self.row(("say", name(k)), ())
            self.row(("sum", "add", ONE, name(k)), ())
            self.end(("halt", name(k)), ())
            self.end(("when", name(k), EMPTY, EMPTY), ())
        self.row(("get", name(CELL)))
        self.row(("get", name(SOME)), ())
        self.row(("sum", "nothing", ONE, ONE), ())

    def test_jumps(self):
        self.end(("jump", ("label", 3), ()))
        self.end(("jump", ("label", 0), (name(INTEGER),)))
        for end in [("jump", ("label", 0), ()), ("jump", ("label", 0), (ONE, ONE)), ("jump", ("label", 2), (ONE, name(PAIR))), ("jump", name(SOME), ()), ("jump", ("label", 3), [])]:
            self.end(end, ())
        one = (("room", (INT,)), ("put", name(N), 0, ONE))
        self.right((BLOCKS, (AHEAD + one, ("jump", ("at", ("label", 2), (UNIT, INT)), (name(EMPTY_ROOM), name(N + 1))))))
        self.ill((1, 1), (BLOCKS, (AHEAD + one, ("jump", ("at", ("label", 2), (UNIT, INT)), (name(EMPTY_ROOM), name(N))))))
        self.ill((1, 1, 1), (BLOCKS, (AHEAD + one, ("jump", ("at", ("label", 2), (UNIT, ("row", ()))), (name(EMPTY_ROOM), name(N + 1))))))

    def test_as_the_rules_told_plainly(self):
        told = {}
        programs = [stored_of(closed_of(to_turns(program))) for program, _, _ in cores()] + [(BLOCKS, (AHEAD, ("match", name(TAGGED), (EMPTY, (AHEAD[1:3], HALT)))))]
        programs += [stored_of(closed_of(to_turns(CoreMaker(seed).program(seed % 30 + 5)))) for seed in range(40)]
        for seed, program in enumerate(programs):
            self.assertIsNone(stored_judged(program))
            self.assertIsNone(stored_fault(program))
            rng = random.Random(seed)
            for _ in range(25):
                value = changed(rng, program)
                place = stored_judged(value)
                self.assertEqual(place, stored_fault(value), value)
                told[place is None] = told.get(place is None, 0) + 1
        self.assertGreater(min(told.values()), 25)


class Runs(Case):
    def ends(self, program, number, letters=(), beats=0):
        """Done within just so many beats."""
        self.assertIsNone(stored_judged(program))
        for more in (0, 1, 20000 - beats):
            self.assertEqual(run_stored(program, beats + more), ("done", number, letters))
        if beats:
            told = run_stored(program, beats - 1)
            self.assertEqual(told[0], "spent")
            self.assertEqual(letters[:len(told[1])], told[1])

    def body(self, rows, end, number, letters=(), beats=0):
        self.ends((BLOCKS, (rows, end)), number, letters, beats)

    def test_beats(self):
        self.assertEqual(run_stored(program=((), EMPTY), beats=0), ("done", 1, ()))
        say = ((("say", TWO),), HALT)
        self.body((), ("when", ("int", 0), say, EMPTY), 1, (2,), 1)
        self.body((), ("when", ("int", -5), say, EMPTY), 1, (), 0)
        self.body((("tagged", 0, BOTH, TWO),), ("match", name(0), (((), ("halt", name(1))), EMPTY)), 2, (), 1)
        self.body((), ("jump", ("label", 3), ()), 1, (), 1)
        self.assertEqual(run_stored(((), ((("say", ONE), ("say", TWO)), ("when", ("int", 0), say, EMPTY))), 0), ("spent", (1, 2)))

    def test_rooms_are_changed_for_all_names(self):
        rows = (("room", (INT,)), ("put", name(0), 0, ONE), ("thing", name(1)), ("put", name(0), 0, TWO), ("part", name(1), 0), ("part", name(2), 0), ("part", name(3), 0),
                ("put", name(2), 0, ("int", 9)), ("part", name(3), 0), ("say", name(4)), ("say", name(5)), ("say", name(6)))
        self.body(rows, ("halt", name(8)), 9, (2, 2, 2))
        # Through a room in a room, a cell, a tagged thing, and what a block is handed.
        kind = room((INT, True))
        inner = (("room", (INT,)), ("put", name(0), 0, ONE), ("room", (kind,)), ("put", name(2), 0, name(1)), ("cell", name(1)), ("tagged", 0, ("one", (kind,)), name(1)), ("part", name(3), 0),
                 ("put", name(6), 0, ("int", 7)), ("get", name(4)), ("part", name(8), 0), ("say", name(9)))
        self.body(inner, ("match", name(5), (((("part", name(11), 0),), ("halt", name(12))),)), 7, (7,), 1)
        change = (0, (kind, ("not", 0, ())), ((("put", name(0), 0, ("int", 5)),), ("jump", name(1), ())))
        show = (0, (kind,), ((("part", name(0), 0),), ("halt", name(1))))
        self.ends(((change, show, (0, (), EMPTY)), ((("room", (INT,)), ("put", name(0), 0, ONE), ("put", name(0), 0, ("int", 3))), ("jump", ("label", 1), (name(1),)))), 3, (), 1)
        both = (0, (kind, kind), ((("put", name(0), 0, ("int", 5)), ("part", name(1), 0)), ("halt", name(3))))
        self.ends(((both,), (rows[:2], ("jump", ("label", 0), (name(1), name(1))))), 5, (), 1)

    def test_rooms_are_unlike(self):
        rows = (("room", (INT,)), ("put", name(0), 0, ONE), ("room", (INT,)), ("put", name(2), 0, TWO), ("part", name(1), 0), ("part", name(3), 0), ("say", name(4)), ("say", name(5)))
        self.body(rows, HALT, 1, (1, 2))
        self.body((("say", ONE), ("say", TWO), ("cell", name(0)), ("set", name(2), name(1))), HALT, 1, (1, 2))

    def test_cells_sums_and_the_rest(self):
        rows = (("cell", ONE), ("thing", name(0)), ("set", name(1), TWO), ("get", name(0)), ("sum", "times", name(3), ("int", 2 ** 30)), ("say", name(4)), ("sum", "take", ("int", -2 ** 31), ONE), ("say", name(6)))
        self.body(rows, ("halt", name(3)), 2, (-2 ** 31, 2 ** 31 - 1))
        packed = (("room", (INT, ("not", 0, (INT,)))), ("put", name(0), 1, ("label", 0)), ("put", name(1), 0, TWO), ("thing", ("hide", INT, name(2), PACK)), ("open", name(3)), ("part", name(4), 0), ("part", name(4), 1))
        self.ends((((0, (INT,), ((), ("halt", name(0)))),), (packed, ("jump", name(6), (name(5),)))), 2, (), 1)
        listed = (("room", ()), ("tagged", 0, ("one", (UNIT, room((INT, True), (LIST, True)))), name(0)), ("thing", ("fold", LIST, name(1))), ("unfold", name(2)))
        self.body(listed, ("match", name(3), (((), ("halt", TWO)), EMPTY)), 2, (), 1)

    def test_thousands_of_beats(self):
        begun = time.time()
        kind = room((INT, True))
        loop = (0, (kind,), ((("part", name(0), 0), ("sum", "take", name(1), ONE), ("put", name(0), 0, name(2))), ("when", name(1), ((), ("halt", ("int", 7))), ((), ("jump", ("label", 0), (name(3),))))))
        self.ends(((loop,), ((("room", (INT,)), ("put", name(0), 0, ("int", 19998))), ("jump", ("label", 0), (name(1),)))), 7, (), 20000)
        self.assertLess(time.time() - begun, 10)

    def test_errors(self):
        for value in STRANGE:
            place = stored_judged(value)
            self.fails(IllKinded, "place", place, run_stored, value, 5)
            self.fails(IllKinded, "place", place, run_stored, value, -1)
        self.fails(IllKinded, "place", (1, 0, 1), run_stored, ((), ((("room", (INT,)), ("part", name(0), 0)), HALT)), None)
        for beats in (-1, True, False, None, "1", (), [1], -10 ** 89):
            self.fails(InvalidCount, None, None, run_stored, ((), EMPTY), beats)


if __name__ == "__main__":
    unittest.main()
