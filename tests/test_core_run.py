import time
import unittest

from kindscarried.core_looker import core_judged
from kindscarried.core_run import run_core
from kindscarried.core_steps import run_steps
from kindscarried.errors import IllKinded, InvalidCount, TooMany
from kindscarried.source_run import run_source
from kindscarried.source_texts import source_told
from kindscarried.to_core import to_core
from tests.common import STRANGE, Case, nested
from tests.programs import LIST, TEXTS, cores
from tests.random_core import CoreMaker

INT = ("int",)
UNIT = ("row", ())
ONE = ("int", 1)
TWO = ("int", 2)
F = ("fun", 0, (INT,), INT, ("name", 1))


def name(k):
    return ("name", k)


def say(number, then=None):
    """Says the number, then gives the other term, else the number."""
    return ("let", ("say", ("int", number)), ("int", number) if then is None else then)


class Runs(Case):
    def ends(self, program, number, letters=(), beats=0):
        """Done within just so many beats."""
        self.assertIsNone(core_judged(program))
        self.assertEqual(run_core(program, beats), ("done", number, letters))
        self.assertEqual(run_core(program, beats + 1), ("done", number, letters))
        if beats:
            self.assertEqual(run_core(program, beats - 1)[0], "spent")

    def test_example(self):
        loop = ("fun", 0, (INT,), INT, ("let", ("say", name(1)), ("when", name(1), ("int", 5),
                ("call", name(0), (), (("sum", "take", name(1), ONE),)))))
        program = ("call", loop, (), (TWO,))
        self.assertEqual([run_core(program, 3), run_core(program, 2)], [("done", 5, (2, 1, 0)), ("spent", (2, 1))])
        self.assertEqual([run_core(program=program, beats=k) for k in (0, 1, 4, 20000)],
                         [("spent", ()), ("spent", (2,)), ("done", 5, (2, 1, 0)), ("done", 5, (2, 1, 0))])

    def test_sums_go_round(self):
        for word, first, second, wanted in [
                ("add", 3, 2, 5), ("take", 3, 5, -2), ("times", 3, -2, -6), ("less", 2, 3, 1), ("less", 3, 3, 0), ("same", 3, 3, 1), ("same", 3, 2, 0),
                ("less", -2 ** 31, 2 ** 31 - 1, 1), ("add", 2 ** 31 - 1, 1, -2 ** 31), ("take", -2 ** 31, 1, 2 ** 31 - 1),
                ("times", -2 ** 31, -1, -2 ** 31), ("times", 2 ** 16, 2 ** 16, 0), ("times", 65537, 65537, 131073)]:
            self.ends(("sum", word, ("int", first), ("int", second)), wanted)

    def test_each_word(self):
        one = ("one", (INT, ("row", (INT, INT))))
        rec = ("rec", ("row", (INT,)))
        some = ("some", ("row", (("var", 0), ("to", 0, (("var", 0),), INT))))
        self.ends(("when", ("int", 0), ONE, TWO), 1)
        self.ends(("when", ("int", -1), ONE, TWO), 2)
        self.ends(("let", ONE, ("let", TWO, ("sum", "take", name(0), name(1)))), -1)
        self.ends(("part", ("row", (ONE, TWO)), 1), 2)
        for index, inner, wanted in [(0, ("int", 7), 7), (1, ("row", (ONE, TWO)), 2)]:
            self.ends(("match", ("tag", index, one, inner), (name(0), ("part", name(0), 1))), wanted)
        self.ends(("part", ("unfold", ("fold", rec, ("row", (TWO,)))), 0), 2)
        self.ends(("open", ("hide", INT, ("row", (TWO, F)), some), ("call", ("part", name(0), 1), (), (("part", name(0), 0),))), 2, (), 1)
        self.ends(("call", ("fun", 2, (("var", 1), ("var", 0)), ("var", 0), name(2)), (INT, UNIT), (UNIT, TWO)), 2, (), 1)
        self.ends(("let", ("cell", ONE), ("let", ("set", name(0), TWO), ("get", name(0)))), 2)
        self.ends(("let", ("say", ONE), ("let", ("say", TWO), ("int", 3))), 3, (1, 2))

    def test_from_left_to_right(self):
        one = ("one", (INT,))
        terms = [("sum", "add", say(1), say(2)), ("part", ("row", (say(1), say(2))), 0), ("call", F, (), (("sum", "take", say(1), say(2)),)),
                 ("call", say(1, ("fun", 0, (INT,), INT, say(9))), (), (say(2),)),
                 ("when", say(1), say(9), say(2)), ("let", say(1), say(2)), ("match", ("tag", 0, one, say(1)), (say(2),)),
                 ("let", ("set", say(1, ("cell", ONE)), say(2)), ONE), ("let", ("say", say(2, ONE)), ONE)]
        self.assertEqual([run_core(term, 5)[2] for term in terms],
                         [(1, 2), (1, 2), (1, 2), (1, 2, 9), (1, 2), (1, 2), (1, 2), (1, 2), (2, 1)])

    def test_a_call_is_a_beat_behind_what_it_evaluates(self):
        program = ("call", say(1, ("fun", 0, (INT,), INT, name(2))), (), (say(2),))
        self.assertEqual(run_core(program, 0), ("spent", (1, 2)))
        self.assertEqual(run_core(program, 1), ("done", 2, (1, 2)))
        both = ("sum", "add", ("call", F, (), (say(3),)), ("call", F, (), (say(4),)))
        self.assertEqual([run_core(both, k) for k in range(3)], [("spent", (3,)), ("spent", (3, 4)), ("done", 7, (3, 4))])
        inner = ("call", F, (), (("call", F, (), (say(5),)),))
        self.assertEqual([run_core(inner, k) for k in range(3)], [("spent", (5,)), ("spent", (5,)), ("done", 5, (5,))])

    def test_cells_that_two_names_lead_to(self):
        program = ("let", ("cell", ("int", 4)), ("let", ("row", (name(0), name(0))), ("let", ("set", ("part", name(1), 1), ("int", 6)),
                   ("sum", "add", ("get", ("part", name(1), 0)), ("get", name(0))))))
        self.ends(program, 12)
        unlike = ("let", ("cell", ONE), ("let", ("cell", ONE), ("let", ("set", name(0), ("int", 6)), ("get", name(1)))))
        self.ends(unlike, 1)
        keep = ("fun", 0, (INT,), INT, ("let", ("set", name(0), ("sum", "add", ("get", name(0)), name(2))), ("get", name(0))))
        self.ends(("let", ("cell", ONE), ("let", keep, ("sum", "times", ("call", name(1), (), (TWO,)), ("call", name(1), (), (TWO,))))), 15, (), 2)

    def test_scopes(self):
        self.ends(("sum", "add", ("let", ONE, ("let", TWO, name(1))), ("let", ("int", 5), name(0))), 7)
        make = ("fun", 0, (INT,), ("to", 0, (INT,), INT), ("fun", 0, (INT,), INT, ("sum", "take", name(1), name(3))))
        self.ends(("let", make, ("let", ("call", name(0), (), (("int", 10),)), ("let", ("call", name(0), (), (("int", 20),)),
                  ("sum", "add", ("call", name(1), (), (ONE,)), ("call", name(2), (), (TWO,)))))), 27, (), 4)


class Others(Case):
    def test_texts(self):
        for program, number, letters in cores():
            self.assertEqual(run_core(program, 1000), ("done", number, letters))

    def test_as_run_source(self):
        for text, number, letters in TEXTS:
            source = source_told(text)
            core = to_core(source)
            for beats in list(range(12)) + [20, 50, 200]:
                told = run_source(source, beats)
                same, double = run_core(core, beats), run_core(core, 2 * beats)
                if told[0] == "done":
                    self.assertEqual(double, told)
                if same[0] == "done":
                    self.assertEqual(told, same)
                self.assertEqual(double[-1][:len(told[-1])], told[-1])
                self.assertEqual(told[-1][:len(same[-1])], same[-1])

    def test_as_run_steps(self):
        ends = {}
        for seed in range(400):
            program = CoreMaker(seed).program((10, 25, 60)[seed % 3])
            last = None
            for beats in (0, 1, 2, 3, 7, 40):
                told = run_core(program, beats)
                if last is not None:
                    self.assertEqual(told[-1][:len(last[-1])], last[-1])
                    self.assertTrue(last[0] == "spent" or last == told)
                last = told
                try:
                    self.assertEqual(run_steps(program, beats), told)
                    ends[told[0]] = ends.get(told[0], 0) + 1
                except TooMany:
                    pass
        self.assertGreater(min(ends.values()), 40)

    def test_no_kinds_and_no_bounds(self):
        row = ("row", (ONE,) * 150)
        program = ("part", ("row", tuple(("part", name(0), 0) for _ in range(60))), 0)
        for _ in range(60):
            program = ("let", row, program)
        self.assertIsNone(core_judged(program))
        self.fails(TooMany, "count", 6000, run_steps, program, 5)
        self.assertEqual(run_core(program, 0), ("done", 1, ()))
        # A function that hands itself ever greater kinds and things.
        function = ("fun", 1, (("var", 0),), INT, ("let", ("say", ONE), ("call", name(0), (("row", (("free", 0), ("free", 0))),),
                    (("row", (name(1), name(1))),))))
        self.assertEqual(run_core(("call", function, (INT,), (ONE,)), 2000), ("spent", (1,) * 2000))


class Many(Case):
    def test_calls_within_and_behind_one_another(self):
        start = time.time()
        for text, beats, wanted in [
                ("fun f ( n ) = if n then f ( n - 1 ) else 7 in f ( 19999 )", 20000, 7),
                ("fun f ( n ) = if n then 1 + f ( n - 1 ) else 0 in f ( 19999 )", 20000, 19999),
                (LIST + "fun up ( n , l ) = if n then up ( n - 1 , Cons ( n , l ) ) else l in "
                 "fun sum ( l ) = match l { Nil -> 0 | Cons ( x , r ) -> x + sum ( r ) } in sum ( up ( 9000 , Nil ) )", 18002, 9000 * 9001 // 2),
                ("let c = cell ( fn ( ) 0 ) in fun f ( n ) = if n then let old = get c in c := ( fn ( ) 1 + old ( ) ) ; f ( n - 1 ) else ( get c ) ( ) in f ( 9000 )", 18002, 9000)]:
            program = to_core(source_told(text))
            self.assertEqual(run_core(program, beats), ("done", wanted, ()))
            self.assertEqual(run_core(program, beats - 1), ("spent", ()))
        program = to_core(source_told("fun f ( n ) = say n ; f ( n + 1 ) in f ( 0 )"))
        self.assertEqual(run_core(program, 20000), ("spent", tuple(range(20000))))
        self.assertLess(time.time() - start, 15)

    def test_great_bodies(self):
        start = time.time()
        rows = ("row", (ONE,) * 60)
        body = ("when", name(1), ("int", 5), ("let", ("part", ("row", (rows,) * 3), 0), ("call", name(0), (), (("sum", "take", name(1), ONE),))))
        program = ("call", ("fun", 0, (INT,), INT, body), (), (("int", 2000),))
        self.assertEqual(run_core(program, 20000), ("done", 5, ()))
        self.assertEqual(run_core(nested("let", 100, ONE, ONE), 0), ("done", 1, ()))
        self.assertLess(time.time() - start, 10)


class Errors(Case):
    def test_ill_kinded(self):
        for value in STRANGE:
            if value != INT:
                self.fails(IllKinded, "place", (), run_core, value, 5)
                self.fails(IllKinded, "place", (), run_core, value, -1)
        down = ("fun", 0, (INT,), INT, ("when", name(1), ("int", 5), ("call", name(0), (), (("sum", "take", name(1), ("say", ONE)),))))
        self.fails(IllKinded, "place", (1, 4, 3, 3, 0), run_core, ("call", down, (), (TWO,)), 9)
        self.fails(IllKinded, "place", (3,), run_core, ("sum", "add", ONE, ("sum", "add", ONE, UNIT)), -1)
        for other in (UNIT, F, ("cell", ONE), ("say", ONE), ("spot", 0)):
            self.fails(IllKinded, "place", (), run_core, other, True)

    def test_invalid_count(self):
        for beats in (-1, True, False, None, "1", (), [1], -10 ** 89):
            self.fails(InvalidCount, None, None, run_core, ONE, beats)
        self.assertEqual(run_core(ONE, 10 ** 89), ("done", 1, ()))


if __name__ == "__main__":
    unittest.main()
