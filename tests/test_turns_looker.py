import random
import unittest

from kindscarried.kinds import unfolded
from kindscarried.to_turns import to_turns
from kindscarried.turns import is_turns
from kindscarried.turns_looker import turns_judged
from tests.changes import changed
from tests.common import STRANGE, Case
from tests.naive_lookers import turns_fault
from tests.programs import cores
from tests.random_core import CoreMaker

INT = ("int",)
VAR = ("var", 0)
FREE = ("free", 0)
ONE = ("int", 1)
HALT = ("halt", ONE)
EMPTY = ((), HALT)
UNIT = ("row", ())
PAIR = ("row", (INT, ("cell", INT)))
BOTH = ("one", (INT, PAIR))
LIST = ("rec", ("one", (UNIT, ("row", (INT, VAR)))))
PACK = ("some", ("row", (VAR, ("not", 0, (VAR,)))))
# Names 0 to 5: an int, a row, a cell, a pair, a one, a list; a pack, a function.
AHEAD = (("sum", "add", ONE, ONE), ("row", ()), ("cell", ONE), ("row", (ONE, ("name", 2))), ("tag", 1, BOTH, ("name", 3)),
         ("tag", 0, unfolded(LIST), ("name", 1)), ("fold", LIST, ("name", 5)), ("fun", 1), ("row", (ONE, ("name", 7))), ("hide", INT, ("name", 8), PACK))
F = (0, (INT,), EMPTY)
N = len(AHEAD)
BAD = ("sum", "add", ("name", 99), ONE)


def name(k):
    return ("name", k)


def start(*rows, end=HALT):
    return (0, (), (rows, end))


class Rules(Case):
    def right(self, *functions):
        self.assertIsNone(turns_judged(functions))
        self.assertIsNone(turns_judged(value=functions))

    def ill(self, place, *functions):
        told = turns_judged(functions)
        self.assertEqual(told, place)
        self.assertIs(type(told), tuple)

    def row(self, row, truth):
        """Whether the row may stand behind AHEAD: in the start, in a function, in a body of an end."""
        for place, functions in [((0, 2, 0, N), (start(*AHEAD, row), F)),
                                 ((2, 2, 0, 1), (start(*AHEAD, ("fun", 2)), F, (0, (), ((("say", ONE), row), HALT)))),
                                 ((0, 2, 1, 2, 0, 0), (start(*AHEAD, end=("when", ONE, ((row,), HALT), EMPTY)), F)),
                                 ((0, 2, 1, 3, 0, 1), (start(*AHEAD, end=("when", ONE, EMPTY, ((("say", ONE), row), HALT))), F)),
                                 ((0, 2, 1, 2, 1, 0, 0), (start(*AHEAD, end=("match", name(4), (EMPTY, ((row,), HALT)))), F)),
                                 ((2, 2, 1, 2, 0, 0), (start(*AHEAD, ("fun", 2)), F, (0, (), ((), ("when", ONE, ((row,), HALT), EMPTY)))))]:
            if truth:
                self.right(*functions)
            else:
                self.ill(place, *functions)

    def end(self, end, truth):
        for place, functions in [((0, 2, 1), (start(*AHEAD, end=end), F)),
                                 ((0, 2, 1, 3, 1), (start(*AHEAD, end=("when", ONE, EMPTY, ((("say", ONE),), end))), F)),
                                 ((2, 2, 1), (start(*AHEAD, ("fun", 2)), F, (0, (PAIR,), ((), end)))),
                                 ((0, 2, 1, 2, 0, 1), (start(*AHEAD, ("row", ()), end=("match", name(4), (((), end), EMPTY))), F))]:
            if truth:
                self.right(*functions)
            else:
                self.ill(place, *functions)

    def test_what_is_no_program(self):
        for value in STRANGE:
            self.assertEqual(turns_judged(value), ())
        self.ill(())
        self.ill((), start(("fun", 1)))
        self.ill((), start(BAD, end=("halt", ("int", True))))
        self.ill((), start(("say", ONE), ("say", ONE, ONE)))

    def test_ahead(self):
        self.right(start(*AHEAD), F)
        self.row(("say", ONE), True)

    def test_names(self):
        for k in range(N):
            self.row(("cell", name(k)), True)
        self.row(("cell", name(N + 1)), False)
        self.row(("cell", name(10 ** 60)), False)
        # A set or say binds no name.
        self.ill((0, 2, 0, 2), start(("cell", ONE), ("set", name(0), ONE), ("cell", name(1))))
        self.ill((0, 2, 0, 1), start(("say", ONE), ("cell", name(0))))
        self.right(start(("cell", ONE), ("set", name(0), ONE), ("say", ONE), ("cell", ONE), ("get", name(1))))

    def test_sums(self):
        for word in ("add", "take", "times", "less", "same"):
            self.row(("sum", word, name(0), ONE), True)
            for k in range(1, N):
                self.row(("sum", word, name(k), ONE), False)
                self.row(("sum", word, ONE, name(k)), False)
        self.right(start(("sum", "less", ONE, ONE), ("say", name(0))))

    def test_rows_and_parts(self):
        self.row(("row", ()), True)
        self.row(("row", (name(0), name(9), ONE)), True)
        self.row(("row", (name(0), name(N + 1))), False)
        self.row(("part", name(3), 0), True)
        self.row(("part", name(3), 1), True)
        for k, index in [(3, 2), (3, 10 ** 60), (1, 0), (0, 0), (2, 0), (4, 0), (6, 0)]:
            self.row(("part", name(k), index), False)
        self.right(start(*AHEAD, ("part", name(3), 1), ("set", name(10), ONE), ("part", name(3), 0), ("say", name(11))), F)

    def test_tags_and_matches(self):
        self.row(("tag", 0, BOTH, ONE), True)
        self.row(("tag", 1, BOTH, name(3)), True)
        for row in [("tag", 0, BOTH, name(3)), ("tag", 1, BOTH, ONE), ("tag", 2, BOTH, ONE), ("tag", 0, PAIR, ONE), ("tag", 0, LIST, ONE), ("tag", 0, ("one", (FREE,)), ONE),
                    ("tag", 0, ("one", ()), ONE), ("tag", 0, None, ONE), ("tag", 0, ("one", (INT, VAR)), ONE)]:
            self.row(row, False)
        self.end(("match", name(4), (EMPTY, EMPTY)), True)
        for end in [("match", name(4), (EMPTY,)), ("match", name(4), (EMPTY,) * 3), ("match", name(4), ()), ("match", ONE, (EMPTY,)), ("match", name(3), (EMPTY,) * 2),
                    ("match", name(6), (EMPTY,) * 2), ("match", name(N + 3), (EMPTY,) * 2)]:
            self.end(end, False)
        # The next name is of the kind of the body's index.
        self.right(start(*AHEAD, end=("match", name(4), (((), ("halt", name(N))), ((("part", name(N), 0),), ("halt", name(N + 1)))))), F)
        self.ill((0, 2, 1, 2, 1, 1), start(*AHEAD, end=("match", name(4), (((), ("halt", name(N))), ((), ("halt", name(N)))))), F)
        self.ill((0, 2, 1, 2, 1, 1), start(*AHEAD, end=("match", name(4), (((), ("halt", name(N))), ((), ("halt", name(N + 1)))))), F)

    def test_cells(self):
        self.row(("cell", name(9)), True)
        self.row(("get", name(2)), True)
        self.row(("set", name(2), name(0)), True)
        for k in (0, 1, 3, 4, 6, 7, 9):
            self.row(("get", name(k)), False)
            self.row(("set", name(k), ONE), False)
            if k:
                self.row(("set", name(2), name(k)), False)
        self.right(start(("cell", ONE), ("get", name(0)), ("say", name(1))))
        self.ill((0, 2, 0, 2), start(("cell", ONE), ("cell", name(0)), ("set", name(1), ONE)))

    def test_folds(self):
        self.row(("fold", LIST, name(5)), True)
        self.row(("unfold", name(6)), True)
        for row in [("fold", LIST, name(6)), ("fold", LIST, ONE), ("fold", BOTH, name(5)), ("fold", ("rec", VAR), name(5)), ("fold", None, name(5)), ("fold", ("rec", FREE), ONE)]:
            self.row(row, False)
        for k in (0, 1, 2, 3, 4, 5, 7, 9):
            self.row(("unfold", name(k)), False)
        self.right(start(*AHEAD, ("unfold", name(6)), end=("match", name(10), (EMPTY, ((("part", name(11), 1), ("unfold", name(12))), HALT)))), F)

    def test_hides_and_opens(self):
        self.row(("hide", INT, name(8), PACK), True)
        for row in [("hide", UNIT, name(8), PACK), ("hide", INT, name(3), PACK), ("hide", FREE, name(8), PACK), ("hide", INT, name(8), PAIR),
                    ("hide", None, name(8), PACK), ("hide", INT, name(8), None), ("hide", INT, ONE, ("some", FREE)), ("hide", VAR, name(8), PACK)]:
            self.row(row, False)
        self.row(("hide", INT, ONE, ("some", VAR)), True)
        self.row(("open", name(9)), True)
        for k in (0, 1, 3, 4, 6, 7, 8):
            self.row(("open", name(k)), False)
        # What is opened is of the next kind variable, unlike that of another one that is opened.
        jump = ("jump", name(12), (), (name(11),))
        self.right(start(*AHEAD, ("open", name(9)), ("part", name(10), 0), ("part", name(10), 1), end=jump), F)
        self.ill((0, 2, 1), start(*AHEAD, ("open", name(9)), ("open", name(9)), ("part", name(10), 0), ("part", name(11), 1), end=("jump", name(13), (), (name(12),))), F)
        self.right(start(*AHEAD, ("open", name(9)), ("open", name(9)), ("part", name(11), 0), ("part", name(11), 1), ("hide", ("free", 1), name(11), PACK)), F)
        self.ill((0, 2, 0, N + 1), start(*AHEAD, ("open", name(9)), ("hide", ("free", 1), name(10), PACK)), F)
        self.ill((0, 2, 0, N), start(*AHEAD, ("fold", ("rec", ("cell", FREE)), ONE)), F)

    def test_says_and_halts(self):
        self.row(("say", name(0)), True)
        self.end(("halt", name(0)), True)
        self.end(("when", name(0), EMPTY, EMPTY), True)
        for k in list(range(1, N)) + [N + 3]:
            self.row(("say", name(k)), False)
            self.end(("halt", name(k)), False)
            self.end(("when", name(k), EMPTY, EMPTY), False)

    def test_functions(self):
        self.right(start(("fun", 1)), (0, (INT, PAIR, PACK, LIST), EMPTY))
        for n, ks, truth in [(0, (INT,), True), (1, (VAR,), True), (0, (VAR,), False), (2, (("var", 1),), True), (2, (("var", 2),), False), (0, (FREE,), False),
                             (0, (None,), False), (0, (INT, 5), False), (0, (("to", 0, (), INT),), False), (0, (("room", ()),), False), (10000, (("var", 9999),), True),
                             (10001, (), False), (10 ** 70, (), False)]:
            if truth:
                self.right(start(("say", ONE), ("fun", 1)), (n, ks, EMPTY))
            else:
                self.ill((0, 2, 0, 1), start(("say", ONE), ("fun", 1)), (n, ks, EMPTY))

    def test_scopes_of_functions(self):
        # What is ahead of the row, itself, the arguments; nothing of what is behind the row.
        cell = ("cell", ONE)
        self.right(start(cell, ("fun", 1), ("sum", "add", ONE, ONE)), (0, (INT, PAIR), ((("get", name(0)), ("sum", "add", name(2), name(4)), ("part", name(3), 1)), ("jump", name(1), (), (name(2), name(3))))))
        self.ill((1, 2, 0, 0), start(cell, ("fun", 1), ("sum", "add", ONE, ONE)), (0, (), ((("say", name(2)),), HALT)))
        self.ill((1, 2, 0, 0), start(cell, ("fun", 1), ("sum", "add", ONE, ONE)), (0, (PAIR,), ((("say", name(2)),), HALT)))
        # Its own kind variables stand behind those in scope at the row.
        opening = (("row", (ONE,)), ("hide", INT, name(0), ("some", ("row", (VAR,)))), ("open", name(1)), ("part", name(2), 0), ("fun", 1))
        inside = (("set", ("name", 8), name(3)), ("hide", ("free", 1), name(6), ("some", VAR)), ("hide", ("free", 2), name(7), ("some", VAR)), ("fold", ("rec", ("cell", ("free", 2))), ("name", 8)))
        poly = (2, (FREE, VAR, ("var", 1)), ((("cell", name(5)),) + inside[:3], ("jump", name(4), (("free", 2), ("free", 1)), (name(3), name(7), name(6)))))
        self.right(start(*opening), poly)
        for place, n, end in [((1, 2, 1), 2, ("jump", name(4), (("free", 1), ("free", 2)), (name(3), name(7), name(6)))),
                              ((1, 2, 1), 2, ("jump", name(4), (("free", 2), ("free", 3)), (name(3), name(7), name(6)))),
                              ((1, 2, 1), 2, ("jump", name(4), (("free", 2),), (name(3), name(7), name(6)))),
                              ((0, 2, 0, 4), 1, HALT)]:
            self.ill(place, start(*opening), (n, poly[1], (poly[2][0], end)))
        self.ill((0, 2, 0, 4), start(*opening), (2, (("free", 1),), EMPTY))

    def test_functions_made_in_bodies(self):
        made = ((("fun", 1),), ("jump", name(N + 1), (), (name(N),)))
        self.right(start(*AHEAD[:7], ("fun", 2), *AHEAD[8:], end=("match", name(4), (made, EMPTY))), (0, (INT,), ((("say", name(N)),), ("jump", name(7), (), (name(N + 2),)))), F)
        self.ill((1, 2, 0, 0), start(*AHEAD[:7], ("fun", 2), *AHEAD[8:], end=("match", name(4), (EMPTY, (made[0], HALT)))), (0, (INT,), ((("say", name(N)),), HALT)), F)

    def test_jumps(self):
        self.end(("jump", name(7), (), (name(0),)), True)
        for end in [("jump", name(7), (), ()), ("jump", name(7), (), (ONE, ONE)), ("jump", name(7), (), (name(1),)), ("jump", name(7), (INT,), (ONE,)),
                    ("jump", ONE, (), (ONE,)), ("jump", name(9), (), (ONE,)), ("jump", name(N + 3), (), (ONE,)), ("jump", name(7), (), (name(N + 3),))]:
            self.end(end, False)
        poly = (1, (VAR, ("cell", VAR)), ((), ("jump", name(0), (FREE,), (name(1), name(2)))))
        for kinds, things, truth in [((INT,), (ONE, name(1)), True), ((UNIT,), (ONE, name(1)), False), ((), (ONE, name(1)), False), ((INT, INT), (ONE, name(1)), False),
                                     ((FREE,), (ONE, name(1)), False), ((None,), (ONE, name(1)), False), ((INT,), (name(1), ONE), False)]:
            functions = (start(("fun", 1), ("cell", ONE), end=("jump", name(0), kinds, things)), poly)
            self.assertEqual(turns_judged(functions), None if truth else (0, 2, 1))

    def test_the_first_of_two_faults(self):
        bad = ((), ("halt", name(99)))
        other = ((BAD,), ("halt", name(99)))
        self.ill((0, 2, 0, 1), start(("say", ONE), BAD, BAD, end=("when", name(99), bad, bad)))
        self.ill((0, 2, 1), start(("say", ONE), end=("when", name(99), bad, bad)))
        self.ill((0, 2, 1, 2, 1), start(end=("when", ONE, bad, other)))
        self.ill((0, 2, 1, 3, 0, 0), start(end=("when", ONE, EMPTY, other)))
        self.ill((0, 2, 1, 2, 1, 2, 1), start(end=("when", ONE, ((), ("when", ONE, bad, EMPTY)), other)))
        self.ill((0, 2, 1, 3, 1, 3, 0, 0), start(end=("when", ONE, EMPTY, ((), ("when", ONE, EMPTY, other)))))
        self.ill((0, 2, 1, 2, 0, 1), start(("tag", 0, BOTH, ONE), end=("match", name(0), (bad, other))))
        # Functions one behind another, wherever they are made.
        f = (0, (), bad)
        self.ill((1, 2, 1), start(("fun", 2), ("fun", 1)), f, f)
        self.ill((0, 2, 0, 2), start(("fun", 2), ("fun", 1), BAD), f, f)
        self.ill((2, 2, 1), start(("fun", 2), ("fun", 1)), F, f)
        self.ill((1, 2, 1), start(("fun", 1)), (0, (), ((("fun", 2),), ("halt", name(99)))), f)
        self.ill((2, 2, 1), start(("fun", 1)), (0, (), ((("fun", 2),), HALT)), f)
        self.ill((0, 2, 0, 0), start(("fun", 1), ("fun", 2)), (0, (None,), bad), (0, (None,), bad))

    def test_kinds_nested_deep(self):
        many = 3000
        cells = tuple([("cell", ONE)] + [("cell", name(k)) for k in range(many)])
        again = tuple([("cell", ONE)] + [("cell", name(many + 1 + k)) for k in range(many)])
        self.right(start(*cells, *again, ("cell", name(many)), ("set", name(2 * many + 2), name(2 * many + 1))))
        self.ill((0, 2, 0, 2 * many + 3), start(*cells, *again, ("cell", name(many)), ("set", name(2 * many + 2), name(2 * many))))


class Others(Case):
    def test_as_the_rules_told_plainly(self):
        told = {}
        programs = [to_turns(program) for program, _, _ in cores()]
        programs += [to_turns(CoreMaker(seed).program(seed % 40 + 5)) for seed in range(60)]
        for seed, program in enumerate(programs):
            self.assertIsNone(turns_judged(program))
            self.assertIsNone(turns_fault(program))
            rng = random.Random(seed)
            for _ in range(40):
                value = changed(rng, program)
                place = turns_judged(value)
                self.assertEqual(place, turns_fault(value) if is_turns(value) else (), value)
                sort = "none" if place is None else "no program" if place == () else "fault"
                told[sort] = told.get(sort, 0) + 1
        self.assertGreater(min(told.values()), 100)
        self.assertEqual(len(told), 3)


if __name__ == "__main__":
    unittest.main()
