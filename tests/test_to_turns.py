import random
import time
import unittest

from kindscarried.bodies import inner_bodies
from kindscarried.core_looker import core_judged
from kindscarried.core_run import run_core
from kindscarried.errors import IllKinded, InvalidKind
from kindscarried.kinds import CLOSED_WORDS, CORE_WORDS, filled, is_kind, opened, shut, unfolded
from kindscarried.source_texts import source_told
from kindscarried.to_core import to_core
from kindscarried.to_turns import carried, to_turns
from kindscarried.turns_looker import turns_judged
from kindscarried.turns_run import run_turns
from tests.common import STRANGE, Case
from tests.programs import LIST, cores
from tests.random_core import PACK, CoreMaker, terms_in
from tests.test_kinds import random_kind

INT = ("int",)
UNIT = ("row", ())
VAR = ("var", 0)
ONE = ("int", 1)
F = ("fun", 0, (INT,), INT, ("name", 1))


def name(k):
    return ("name", k)


class Carried(Case):
    def test_each_word(self):
        for kind in (INT, ("free", 0), ("free", 10 ** 60), UNIT, ("row", (INT, ("free", 3))), ("one", (INT, UNIT)), ("cell", INT), ("some", VAR), ("some", ("row", (VAR, ("free", 1)))),
                     ("rec", ("one", (UNIT, ("row", (INT, VAR)))))):
            self.assertEqual(carried(kind), kind)
            self.assertEqual(carried(kind=kind), kind)

    def test_functions(self):
        for kind, wanted in [
                (("to", 0, (), INT), ("not", 0, (("not", 0, (INT,)),))),
                (("to", 0, (INT, UNIT), ("free", 2)), ("not", 0, (INT, UNIT, ("not", 0, (("free", 2),))))),
                (("to", 1, (VAR,), VAR), ("not", 1, (VAR, ("not", 0, (VAR,))))),
                (("to", 2, (("var", 1), VAR), ("row", (VAR, ("var", 1)))), ("not", 2, (("var", 1), VAR, ("not", 0, (("row", (VAR, ("var", 1))),))))),
                (("to", 3, (), ("var", 2)), ("not", 3, (("not", 0, (("var", 2),)),))),
                (("to", 0, (("to", 0, (INT,), INT),), ("to", 0, (), INT)),
                 ("not", 0, (("not", 0, (INT, ("not", 0, (INT,)))), ("not", 0, (("not", 0, (("not", 0, (INT,)),)),))))),
                (("some", ("row", (VAR, ("to", 1, (VAR, ("var", 1)), ("var", 1))))),
                 ("some", ("row", (VAR, ("not", 1, (VAR, ("var", 1), ("not", 0, (("var", 1),)))))))),
                (("rec", ("to", 0, (), ("row", (INT, VAR)))), ("rec", ("not", 0, (("not", 0, (("row", (INT, VAR)),)),)))),
                (("cell", ("one", (("to", 0, (), INT),))), ("cell", ("one", (("not", 0, (("not", 0, (INT,)),)),)))),
                (("to", 10000, (("var", 9999),), INT), ("not", 10000, (("var", 9999), ("not", 0, (INT,)))))]:
            self.assertEqual(carried(kind), wanted)
            self.assertTrue(is_kind(3, carried(kind), CLOSED_WORDS))

    def test_invalid_kinds(self):
        for value in STRANGE:
            if value != INT:
                self.fails(InvalidKind, None, None, carried, value)
                self.fails(InvalidKind, None, None, carried, ("row", (value,)) if value != INT else None)
        for kind in (("not", 0, ()), ("room", ()), ("code", 0, ()), VAR, ("some", ("var", 1)), ("to", 1, (("var", 1),), INT), ("to", 10001, (), INT), ("rec", VAR), ("one", ()),
                     ("free", -1), ("free", True), ["int"], ("row", [INT]), ("to", 0, [INT], INT), ("cell", ("not", 0, (INT,)))):
            self.fails(InvalidKind, None, None, carried, kind)

    def test_deep(self):
        kind = INT
        for _ in range(1500):
            kind = ("to", 0, (kind,), INT)
        told = carried(kind)
        for _ in range(1500):
            self.assertEqual((told[:2], told[2][1:]), (("not", 0), (("not", 0, (INT,)),)))
            told = told[2][0]

    def test_facts(self):
        """Unlike kinds stay unlike; carried goes along with opened, shut and filled."""
        rng = random.Random(3)
        seen = {}
        for _ in range(1500):
            kind = random_kind(rng, 3, 0, 4, CORE_WORDS)
            self.assertEqual(seen.setdefault(carried(kind), kind), kind)
            kinds = tuple(random_kind(rng, 3, 0, 2, CORE_WORDS) for _ in range(3))
            told = tuple(carried(other) for other in kinds)
            self.assertEqual(carried(filled(kind, kinds)), filled(carried(kind), told))
            order = tuple(rng.sample(range(4), rng.randrange(4)))
            binder = ("to", len(order), (shut(kind, order),), shut(kinds[0], order))
            self.assertEqual(carried(binder)[2][0], shut(carried(kind), order))
            some = ("some", shut(kind, (1,)))
            self.assertEqual(carried(opened(some, kinds[:1])), opened(carried(some), told[:1]))
            ks, result = opened(binder, kinds[:1] * len(order))
            inside = opened(carried(binder), told[:1] * len(order))
            self.assertEqual(tuple(carried(part) for part in ks) + (("not", 0, (carried(result),)),), inside)
            rec = ("rec", ("cell", shut(kind, (2,))))
            self.assertEqual(carried(unfolded(rec)), unfolded(carried(rec)))


def size(program):
    """The number of functions, rows and ends."""
    many = len(program)
    pending = [body for _, _, body in program]
    while pending:
        rows, end = pending.pop()
        many += len(rows) + 1
        pending.extend(body for _, body in inner_bodies(end))
    return many


def ends_of(program):
    pending = [body for _, _, body in program]
    while pending:
        _, end = pending.pop()
        yield end
        pending.extend(body for _, body in inner_bodies(end))


class ToTurns(Case):
    def check(self, core, beats=(0, 1, 2, 3, 5, 10, 60)):
        """All that is promised of to_turns; the outcome with the most of these beats."""
        self.assertIsNone(core_judged(core))
        terms = [term for _, term in terms_in(core)]
        s = len(terms)
        turns = to_turns(core)
        self.assertIsNone(turns_judged(turns))
        self.assertEqual(to_turns(program=core), turns)
        self.assertLessEqual(size(turns), 5 * s + 5)
        most_arguments = max([0] + [len(term[2]) for term in terms if term[0] == "fun"]) + 1
        most_terms = max([0] + [len(term[3]) for term in terms if term[0] == "call"]) + 1
        self.assertLessEqual(max(len(ks) for _, ks, _ in turns), most_arguments)
        self.assertLessEqual(max([0] + [len(end[3]) for end in ends_of(turns) if end[0] == "jump"]), most_terms)
        for b in beats:
            told, more, same = run_core(core, b), run_turns(turns, (s + 2) * (b + 1)), run_turns(turns, b)
            if told[0] == "done":
                self.assertEqual(more, told)
            if same[0] == "done":
                self.assertEqual(told, same)
            self.assertEqual(more[-1][:len(told[-1])], told[-1])
            self.assertEqual(told[-1][:len(same[-1])], same[-1])
        return run_turns(turns, (s + 2) * (beats[-1] + 1))

    def test_texts(self):
        for core, number, letters in cores():
            self.assertEqual(self.check(core, (0, 1, 2, 3, 4, 6, 9, 15, 40, 1000)), ("done", number, letters))

    def test_random_programs(self):
        words = {}
        for seed in range(400):
            core = CoreMaker(seed).program((8, 20, 50)[seed % 3])
            self.check(core)
            for _, term in terms_in(core):
                words[term[0]] = True
        self.assertEqual(len(words), 19)

    def test_least_programs(self):
        self.assertEqual(self.check(ONE), ("done", 1, ()))
        self.assertEqual(self.check(("when", ONE, ONE, ("int", 2))), ("done", 2, ()))
        self.assertEqual(self.check(("sum", "add", ("when", ("int", 0), ONE, ("int", 2)), ("int", 7))), ("done", 8, ()))
        self.assertEqual(self.check(("call", F, (), (ONE,))), ("done", 1, ()))

    def test_functions_of_kinds(self):
        # Behind ONE its names are 1 (itself), 2 and 3.
        pair = ("fun", 2, (VAR, ("var", 1)), ("row", (("var", 1), VAR)), ("row", (name(3), name(2))))
        called = ("call", name(1), (INT, ("cell", INT)), (ONE, ("cell", ("int", 4))))
        program = ("let", ONE, ("let", pair, ("get", ("part", called, 0))))
        self.assertEqual(self.check(program), ("done", 4, ()))
        # A function within one, whose kinds are those of the outer one; it calls itself and is handed on.
        inner = ("fun", 1, (VAR, ("free", 0)), ("row", (VAR, ("free", 0))), ("row", (name(3), name(4))))
        outer = ("fun", 1, (VAR,), ("to", 1, (VAR, ("var", 1)), ("row", (VAR, ("var", 1)))), inner)
        program = ("let", outer, ("part", ("call", ("call", name(0), (INT,), (("int", 5),)), (UNIT,), (UNIT, ("int", 6))), 1))
        self.assertEqual(self.check(program), ("done", 6, ()))

    def test_hidden_things_one_behind_another(self):
        def use(k):
            """Opens a hidden thing where k names are in scope."""
            inside = ("fun", 0, (INT,), INT, ("sum", "add", name(k + 1), name(k + 1)))
            thing = ("hide", INT, ("row", (("int", 3), inside)), PACK)
            return ("open", thing, ("call", ("part", name(k), 1), (), (("part", name(k), 0),)))

        self.assertEqual(self.check(use(0)), ("done", 6, ()))
        self.assertEqual(self.check(("sum", "times", use(0), use(0))), ("done", 36, ()))
        # A function made where two are open, and one handed on where the first one is out of scope again.
        program = ("let", ("sum", "add", use(0), ("int", 0)), ("let", use(1), ("open", ("hide", INT, ONE, ("some", VAR)),
                   ("call", ("fun", 1, (VAR, ("free", 0)), VAR, name(4)), (INT,), (name(1), name(2))))))
        self.assertEqual(self.check(program), ("done", 6, ()))
        both = ("open", ("hide", INT, ONE, ("some", VAR)), ("open", ("hide", UNIT, UNIT, ("some", VAR)),
                ("part", ("call", ("fun", 1, (VAR, ("free", 1)), ("row", (VAR, ("free", 1))), ("row", (name(3), name(4)))), (INT,), (("int", 8), name(1))), 0)))
        self.assertEqual(self.check(both), ("done", 8, ()))

    def test_from_left_to_right(self):
        def say(number):
            return ("let", ("say", ("int", number)), ("int", number))

        def sub(k):
            return ("fun", 0, (INT, INT), INT, ("sum", "take", name(k + 1), name(k + 2)))

        inner = ("call", sub(0), (), (say(3), say(4)))
        program = ("call", ("let", ("say", ONE), sub(1)), (), (("call", sub(0), (), (say(2), inner)), ("when", say(5), say(9), say(6))))
        self.assertEqual(self.check(program), ("done", -3, (1, 2, 3, 4, 5, 6)))
        program = ("part", ("row", (("when", say(0), say(1), say(9)), ("call", sub(0), (), (say(2), say(3))), say(4))), 2)
        self.assertEqual(self.check(program), ("done", 4, (0, 1, 2, 3, 4)))

    def test_great_programs(self):
        begun = time.time()
        calls = ("part", ("row", tuple(("call", F, (), (("int", k),)) for k in range(130))), 77)
        self.assertEqual(self.check(calls, (0, 1, 50, 130)), ("done", 77, ()))
        whens = ("part", ("row", tuple(("when", ("int", k % 2), ONE, ("int", k)) for k in range(99))), 77)
        self.assertEqual(self.check(whens, (0, 1, 50)), ("done", 77, ()))
        deep = ONE
        for _ in range(17):
            deep = ("sum", "add", ("when", ONE, ONE, ("call", F, (), (deep,))), ONE) if len(terms_in(deep)) % 2 else ("sum", "add", deep, ONE)
        self.check(deep)
        # Bodies in ends within one another, some of which go on to the same function.
        tower = ONE
        for _ in range(9):
            tower = ("call", F, (), (("when", tower, ("int", 5), tower),)) if len(terms_in(tower)) < 150 else ("call", F, (), (tower,))
        self.check(tower)
        self.assertLess(time.time() - begun, 10)

    def test_many_beats(self):
        begun = time.time()
        for text, number in [("fun f ( n ) = if n then f ( n - 1 ) else 7 in f ( 5000 )", 7), ("fun f ( n ) = if n then 1 + f ( n - 1 ) else 0 in f ( 5000 )", 5000),
                             (LIST + "fun up ( n , l ) = if n then up ( n - 1 , Cons ( n , l ) ) else l in "
                              "fun sum ( l ) = match l { Nil -> 0 | Cons ( x , r ) -> x + sum ( r ) } in sum ( up ( 3000 , Nil ) )", 3000 * 3001 // 2)]:
            turns = to_turns(to_core(source_told(text)))
            self.assertEqual(run_turns(turns, 20000), ("done", number, ()))
        self.assertLess(time.time() - begun, 10)

    def test_errors(self):
        for value in STRANGE:
            self.fails(IllKinded, "place", (), to_turns, value)
        self.fails(IllKinded, "place", (3, 1), to_turns, ("sum", "add", ONE, ("get", ("name", 0))))
        self.fails(IllKinded, "place", (), to_turns, UNIT)
        self.fails(IllKinded, "place", (), to_turns, F)


if __name__ == "__main__":
    unittest.main()
