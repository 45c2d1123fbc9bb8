import time
import unittest

from kindscarried.closed import closed_judged
from kindscarried.closed_runs import run_closed
from kindscarried.errors import IllKinded, InvalidCount
from kindscarried.kinds import unfolded
from tests.common import STRANGE, Case

INT = ("int",)
VAR = ("var", 0)
ONE = ("int", 1)
TWO = ("int", 2)
HALT = ("halt", ONE)
EMPTY = ((), HALT)
UNIT = ("row", ())
BOTH = ("one", (INT, ("row", (INT,))))
LIST = ("rec", ("one", (UNIT, ("row", (INT, VAR)))))
PACK = ("some", ("row", (VAR, ("not", 0, (VAR,)))))


def name(k):
    return ("name", k)


def say(number, end=HALT):
    return ((("say", ("int", number)),), end)


class Runs(Case):
    def ends(self, program, number, letters=(), beats=0):
        """Done within just so many beats."""
        self.assertIsNone(closed_judged(program))
        for more in (0, 1, 20000 - beats):
            self.assertEqual(run_closed(program, beats + more), ("done", number, letters))
        if beats:
            told = run_closed(program, beats - 1)
            self.assertEqual(told[0], "spent")
            self.assertEqual(letters[:len(told[1])], told[1])

    def body(self, rows, end, number, letters=(), beats=0):
        self.ends(((), (rows, end)), number, letters, beats)

    def test_by_names(self):
        self.assertEqual(run_closed(program=((), EMPTY), beats=0), ("done", 1, ()))

    def test_what_is_a_beat(self):
        self.body((), ("when", ("int", 0), say(5), say(6)), 1, (5,), 1)
        for number in (1, -1, 2 ** 31 - 1, -2 ** 31):
            self.body((), ("when", ("int", number), say(5), say(6)), 1, (6,), 0)
        self.body((), ("match", ("tag", 0, BOTH, TWO), (((), ("halt", name(0))), EMPTY)), 2, (), 1)
        self.body((), ("match", ("tag", 1, BOTH, ("row", (TWO,))), (EMPTY, ((("part", name(0), 0),), ("halt", name(1))))), 2, (), 1)
        self.ends((((0, (), say(7)),), ((), ("jump", ("label", 0), ()))), 1, (7,), 1)
        self.ends((((0, (), say(7)), (0, (), say(8, ("jump", ("label", 0), ())))), say(9, ("jump", ("label", 1), ()))), 1, (9, 8, 7), 2)

    def test_letters_ahead_of_a_beat_that_is_wanted(self):
        program = ((), ((("say", ONE), ("say", TWO)), ("when", ("int", 0), say(3), EMPTY)))
        self.assertEqual(run_closed(program, 0), ("spent", (1, 2)))
        self.assertEqual(run_closed(program, 1), ("done", 1, (1, 2, 3)))
        loop = (((0, (), say(2, ("jump", ("label", 0), ()))),), say(1, ("jump", ("label", 0), ())))
        self.assertEqual([run_closed(loop, k) for k in (0, 1, 5)], [("spent", (1,)), ("spent", (1, 2)), ("spent", (1,) + (2,) * 5)])

    def test_sums_go_round(self):
        for word, first, second, wanted in [("add", 2 ** 31 - 1, 1, -2 ** 31), ("take", -2 ** 31, 1, 2 ** 31 - 1), ("times", 65537, 65537, 131073), ("less", 1, 2, 1),
                                            ("less", 2, 1, 0), ("same", 2, 2, 1), ("same", 1, 2, 0), ("take", 3, 5, -2)]:
            self.body((("sum", word, ("int", first), ("int", second)),), ("halt", name(0)), wanted)

    def test_things(self):
        row = ("row", (ONE, ("row", (TWO, UNIT)), ("label", 0)))
        self.ends((((0, (), EMPTY),), ((("thing", row), ("part", name(0), 1), ("part", name(1), 0), ("part", row, 0), ("say", name(3))), ("halt", name(2)))), 2, (1,))
        nil = ("fold", LIST, ("tag", 0, unfolded(LIST), UNIT))
        cons = ("fold", LIST, ("tag", 1, unfolded(LIST), ("row", (TWO, nil))))
        self.body((("unfold", cons),), ("match", name(0), (EMPTY, ((("part", name(1), 0), ("part", name(1), 1), ("unfold", name(3))), ("match", name(4), (((), ("halt", name(2))), EMPTY))))), 2, (), 2)
        packed = ("hide", INT, ("row", (TWO, ("label", 0))), PACK)
        program = (((0, (INT,), ((), ("halt", name(0)))),), ((("open", packed), ("part", name(0), 0), ("part", name(0), 1)), ("jump", ("at", name(2), ()), (name(1),))))
        self.ends(program, 2, (), 1)
        poly = (2, (VAR, ("var", 1), INT), ((), ("halt", name(2))))
        self.ends(((poly,), ((("thing", ("at", ("label", 0), (UNIT,))),), ("jump", ("at", name(0), (INT,)), (UNIT, ONE, TWO)))), 2, (), 1)
        # The names of a block are just what it is handed, the names of a body those around, too.
        self.ends((((0, (INT, INT), ((("sum", "take", name(0), name(1)),), ("halt", name(2)))),), ((("thing", ONE),) * 5, ("jump", ("label", 0), (("int", 9), TWO)))), 7, (), 1)
        self.body((("thing", TWO),), ("when", ONE, EMPTY, ((("sum", "add", name(0), name(0)),), ("match", ("tag", 0, BOTH, name(1)), (((), ("halt", name(2))), EMPTY)))), 4, (), 1)

    def test_rows_one_behind_another(self):
        rows = (("cell", ONE), ("get", name(0)), ("set", name(0), TWO), ("get", name(0)), ("say", name(1)), ("say", name(3)), ("sum", "add", name(1), name(3)), ("say", name(6)))
        self.body(rows, ("halt", name(3)), 2, (1, 2, 3))

    def test_shared_cells(self):
        rows = (("cell", ONE), ("thing", ("row", (name(0), name(0)))), ("part", name(1), 0), ("part", name(1), 1), ("set", name(2), TWO), ("get", name(3)), ("cell", ONE),
                ("set", name(6), ("int", 9)), ("get", name(0)), ("sum", "add", name(5), name(8)))
        self.body(rows, ("halt", name(9)), 4)
        # A block changes a cell that it is handed.
        add = (0, (("cell", INT), INT, ("not", 0, (("cell", INT),))), ((("get", name(0)), ("sum", "add", name(3), name(1)), ("set", name(0), name(4))), ("jump", name(2), (name(0),))))
        more = (0, (("cell", INT),), ((), ("jump", ("label", 0), (name(0), ("int", 40), ("label", 2)))))
        last = (0, (("cell", INT),), ((("get", name(0)),), ("halt", name(1))))
        self.ends(((add, more, last), ((("cell", ONE),), ("jump", ("label", 0), (name(0), TWO, ("label", 1))))), 43, (), 4)

    def test_the_program_stays(self):
        program = ((), ((("thing", ("row", (ONE, TWO))), ("part", name(0), 1)), ("halt", name(1))))
        for _ in range(3):
            self.ends(program, 2)

    def test_thousands_of_beats(self):
        begun = time.time()
        loop = (0, (INT,), ((("sum", "take", name(0), ONE),), ("when", name(0), ((), ("halt", ("int", 7))), ((), ("jump", ("label", 0), (name(1),))))))
        self.ends(((loop,), ((), ("jump", ("label", 0), (("int", 19998),)))), 7, (), 20000)
        saying = (0, (INT,), ((("say", name(0)), ("sum", "add", name(0), ONE)), ("jump", ("label", 0), (name(2),))))
        self.assertEqual(run_closed(((saying,), ((), ("jump", ("label", 0), (("int", 0),)))), 20000), ("spent", tuple(range(20000))))
        # A list of thousands, made and gone through.
        cons = ("fold", LIST, ("tag", 1, unfolded(LIST), ("row", (name(0), name(1)))))
        make = (0, (INT, LIST), ((("sum", "take", name(0), ONE),), ("when", name(0), ((), ("jump", ("label", 1), (ONE, name(1)))), ((), ("jump", ("label", 0), (name(2), cons))))))
        add = (0, (INT, LIST), ((("unfold", name(1)),), ("match", name(2), (((), ("halt", name(0))), ((("part", name(3), 0), ("part", name(3), 1), ("sum", "add", name(0), name(4))), ("jump", ("label", 1), (name(6), name(5))))))))
        nil = ("fold", LIST, ("tag", 0, unfolded(LIST), UNIT))
        self.ends(((make, add), ((), ("jump", ("label", 0), (("int", 6000), nil)))), 6000 * 6001 // 2 + 1, (), 6001 + 2 + 12001)
        self.assertLess(time.time() - begun, 15)

    def test_things_nested_deep(self):
        thing = ONE
        for _ in range(3000):
            thing = ("row", (thing,))
        self.body((("thing", thing), ("part", name(0), 0)), HALT, 1)


class Errors(Case):
    def test_ill_kinded(self):
        for value in STRANGE:
            place = () if not (type(value) is tuple and len(value) == 2 and type(value[0]) is tuple) else (0, 0)
            self.fails(IllKinded, "place", place, run_closed, value, 5)
            self.fails(IllKinded, "place", place, run_closed, value, -1)
        self.fails(IllKinded, "place", (1, 1, 1), run_closed, ((), ((), ("halt", name(0)))), 0)
        self.fails(IllKinded, "place", (0, 1, 1, 0), run_closed, (((0, (), EMPTY), (0, (VAR,), EMPTY)), EMPTY), None)

    def test_invalid_count(self):
        for beats in (-1, True, False, None, "1", (), [1], -10 ** 89):
            self.fails(InvalidCount, None, None, run_closed, ((), EMPTY), beats)
        self.assertEqual(run_closed(((), EMPTY), 10 ** 89), ("done", 1, ()))


if __name__ == "__main__":
    unittest.main()
