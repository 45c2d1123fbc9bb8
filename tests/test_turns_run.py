import time
import unittest

from kindscarried.errors import IllKinded, InvalidCount
from kindscarried.kinds import unfolded
from kindscarried.turns_looker import turns_judged
from kindscarried.turns_run import run_turns
from tests.common import STRANGE, Case

INT = ("int",)
VAR = ("var", 0)
ONE = ("int", 1)
TWO = ("int", 2)
HALT = ("halt", ONE)
EMPTY = ((), HALT)
UNIT = ("row", ())
BOTH = ("one", (INT, ("row", (INT,))))


def name(k):
    return ("name", k)


def start(*rows, end=HALT):
    return (0, (), (rows, end))


def say(number, end=HALT):
    return ((("say", ("int", number)),), end)


class Runs(Case):
    def ends(self, functions, number, letters=(), beats=0):
        """Done within just so many beats."""
        self.assertIsNone(turns_judged(functions))
        for more in (0, 1, 20000 - beats):
            self.assertEqual(run_turns(functions, beats + more), ("done", number, letters))
        if beats:
            told = run_turns(functions, beats - 1)
            self.assertEqual(told[0], "spent")
            self.assertEqual(letters[:len(told[1])], told[1])

    def test_example(self):
        again = ((("say", name(1)), ("sum", "take", name(1), ONE)), ("when", name(1), ((), ("halt", name(1))), ((), ("jump", name(0), (), (name(2),)))))
        program = (start(("fun", 1), end=("jump", name(0), (), (TWO,))), (0, (INT,), again))
        self.assertEqual(run_turns(program, 4), ("done", 0, (2, 1, 0)))
        self.assertEqual([run_turns(program=program, beats=k) for k in range(5)],
                         [("spent", ()), ("spent", (2,)), ("spent", (2, 1)), ("spent", (2, 1, 0)), ("done", 0, (2, 1, 0))])

    def test_what_is_a_beat(self):
        self.ends((start(),), 1)
        # A when whose integer is 0 is one, another when is none.
        self.ends((start(end=("when", ("int", 0), say(5), say(6))),), 1, (5,), 1)
        for number in (1, -1, 2 ** 31 - 1, -2 ** 31):
            self.ends((start(end=("when", ("int", number), say(5), say(6))),), 1, (6,), 0)
        self.ends((start(("tag", 0, BOTH, TWO), end=("match", name(0), (((), ("halt", name(1))), EMPTY))),), 2, (), 1)
        self.ends((start(("fun", 1), end=("jump", name(0), (), ())), (0, (), say(7))), 1, (7,), 1)
        nested = ((), ("when", ("int", 0), ((), ("when", ONE, EMPTY, ((), ("when", ("int", 0), say(9), EMPTY)))), EMPTY))
        self.ends(((0, (), nested),), 1, (9,), 2)
        many = EMPTY
        for _ in range(500):
            many = ((), ("when", TWO, EMPTY, many))
        self.ends(((0, (), many),), 1, (), 0)

    def test_letters_ahead_of_a_beat_that_is_wanted(self):
        program = (start(("say", ONE), ("say", TWO), end=("when", ("int", 0), say(3), EMPTY)),)
        self.assertEqual(run_turns(program, 0), ("spent", (1, 2)))
        self.assertEqual(run_turns(program, 1), ("done", 1, (1, 2, 3)))
        jump = (start(("fun", 1), ("say", ONE), end=("jump", name(0), (), ())), (0, (), ((("say", TWO),), ("jump", name(0), (), ()))))
        self.assertEqual([run_turns(jump, k) for k in (0, 1, 5)], [("spent", (1,)), ("spent", (1, 2)), ("spent", (1,) + (2,) * 5)])

    def test_sums_go_round(self):
        for word, first, second, wanted in [("add", 2 ** 31 - 1, 1, -2 ** 31), ("take", -2 ** 31, 1, 2 ** 31 - 1), ("times", 65537, 65537, 131073), ("less", 1, 2, 1),
                                            ("less", 2, 1, 0), ("same", 2, 2, 1), ("same", 1, 2, 0), ("take", 3, 5, -2)]:
            self.ends((start(("sum", word, ("int", first), ("int", second)), end=("halt", name(0))),), wanted)

    def test_each_row(self):
        self.ends((start(("row", (ONE, TWO)), ("part", name(0), 1), end=("halt", name(1))),), 2)
        self.ends((start(("row", (TWO,)), ("tag", 1, BOTH, name(0)), end=("match", name(1), (EMPTY, ((("part", name(2), 0),), ("halt", name(3)))))),), 2, (), 1)
        one = ("rec", ("one", (UNIT, ("row", (INT, VAR)))))
        self.ends((start(("row", ()), ("tag", 0, unfolded(one), name(0)), ("fold", one, name(1)), ("row", (TWO, name(2))), ("tag", 1, unfolded(one), name(3)),
                         ("fold", one, name(4)), ("unfold", name(5)), end=("match", name(6), (EMPTY, ((("part", name(7), 0),), ("halt", name(8)))))),), 2, (), 1)
        pack = ("some", ("row", (VAR, ("not", 0, (VAR,)))))
        self.ends((start(("fun", 1), ("row", (TWO, name(0))), ("hide", INT, name(1), pack), ("open", name(2)), ("part", name(3), 0), ("part", name(3), 1),
                         end=("jump", name(5), (), (name(4),))), (0, (INT,), ((), ("halt", name(1))))), 2, (), 1)
        self.ends((start(("fun", 1), ("fun", 2), end=("jump", name(0), (UNIT, INT), (TWO, name(1)))),
                   (2, (("var", 1), ("not", 0, (INT,))), ((), ("jump", name(2), (), (("int", 9),)))), (0, (INT,), ((), ("halt", name(2))))), 9, (), 2)

    def test_rows_one_behind_another(self):
        rows = (("cell", ONE), ("get", name(0)), ("set", name(0), TWO), ("get", name(0)), ("say", name(1)), ("say", name(2)), ("sum", "add", name(1), name(2)), ("say", name(3)))
        self.ends((start(*rows, end=("halt", name(2))),), 2, (1, 2, 3))

    def test_shared_cells(self):
        rows = (("cell", ONE), ("row", (name(0), name(0))), ("part", name(1), 0), ("part", name(1), 1), ("set", name(2), TWO), ("get", name(3)), ("cell", ONE),
                ("set", name(5), ("int", 9)), ("get", name(0)), ("sum", "add", name(4), name(6)))
        self.ends((start(*rows, end=("halt", name(7))),), 4)
        # A function, called twice, adds to a cell from outside.
        add = ((("get", name(0)), ("sum", "add", name(4), name(2)), ("set", name(0), name(5))), ("jump", name(3), (), ()))
        program = (start(("cell", ONE), ("fun", 1), ("fun", 2), end=("jump", name(1), (), (TWO, name(2)))), (0, (INT, ("not", 0, ())), add),
                   (0, (), ((("fun", 3),), ("jump", name(1), (), (("int", 40), name(3))))), (0, (), ((("get", name(0)),), ("halt", name(4)))))
        self.ends(program, 43, (), 4)

    def test_functions_keep_their_own_names(self):
        # The same row makes two functions with unlike names around, which stay as they were.
        make = ((("fun", 2),), ("jump", name(2), (), (name(3),)))
        program = (start(("fun", 1), ("fun", 3), end=("jump", name(0), (), (("int", 10), name(1)))),
                   (0, (INT, ("not", 0, (("not", 0, ()),))), make), (0, (), ((("say", name(1)),), HALT)),
                   (0, (("not", 0, ()),), ((("fun", 4),), ("jump", name(0), (), (("int", 20), name(3))))),
                   (0, (("not", 0, ()),), ((("say", ONE),), ("jump", name(2), (), ()))))
        self.ends(program, 1, (1, 10), 5)

    def test_thousands_of_beats(self):
        begun = time.time()
        loop = ((("sum", "take", name(1), ONE),), ("when", name(1), ((), ("halt", ("int", 7))), ((), ("jump", name(0), (), (name(2),)))))
        program = (start(("fun", 1), end=("jump", name(0), (), (("int", 19998),))), (0, (INT,), loop))
        self.ends(program, 7, (), 20000)
        # Each jump hands on a function that has the one ahead.
        deep = ((("sum", "take", name(1), ONE), ("fun", 2)), ("when", name(1), ((), ("jump", name(2), (), (("int", 0),))), ((), ("jump", name(0), (), (name(3), name(4))))))
        then = ((("sum", "add", name(5), ONE),), ("jump", name(2), (), (name(6),)))
        program = (start(("fun", 1), ("fun", 3), end=("jump", name(0), (), (("int", 9000), name(1)))), (0, (INT, ("not", 0, (INT,))), deep),
                   (0, (INT,), then), (0, (INT,), ((), ("halt", name(2)))))
        self.ends(program, 9000, (), 18003)
        saying = (start(("fun", 1), end=("jump", name(0), (), (("int", 0),))),
                  (0, (INT,), ((("say", name(1)), ("sum", "add", name(1), ONE)), ("jump", name(0), (), (name(2),)))))
        self.assertEqual(run_turns(saying, 20000), ("spent", tuple(range(20000))))
        self.assertLess(time.time() - begun, 15)


class Errors(Case):
    def test_ill_kinded(self):
        for value in STRANGE:
            self.fails(IllKinded, "place", (), run_turns, value, 5)
            self.fails(IllKinded, "place", (), run_turns, value, -1)
        self.fails(IllKinded, "place", (0, 2, 1), run_turns, (start(end=("halt", name(0))),), 0)
        self.fails(IllKinded, "place", (0, 2, 0, 1), run_turns, (start(("say", ONE), ("get", ONE)),), None)

    def test_invalid_count(self):
        for beats in (-1, True, False, None, "1", (), [1], -10 ** 89):
            self.fails(InvalidCount, None, None, run_turns, (start(),), beats)
        self.assertEqual(run_turns((start(),), 10 ** 89), ("done", 1, ()))


if __name__ == "__main__":
    unittest.main()
