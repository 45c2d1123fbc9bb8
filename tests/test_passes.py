import time
import unittest

from kindscarried.core_looker import core_judged, core_kind
from kindscarried.core_parts import size_of
from kindscarried.core_run import run_core
from kindscarried.errors import IllKinded, InvalidCount
from kindscarried.passes import folded, inlined, optimised, pruned
from tests.common import STRANGE, Case, nested
from tests.naive_passes import fold, inline, naive_optimised, passed, prune
from tests.programs import cores
from tests.random_core import CoreMaker, terms_in

INT = ("int",)
UNIT = ("row", ())
VAR = ("var", 0)
FREE = ("free", 0)
ONE = ("int", 1)
TWO = ("int", 2)
F = ("fun", 0, (INT,), INT, ("sum", "add", ("name", 1), ONE))
SAY = ("say", ONE)


def add_one(names):
    """F, where so many names are in scope."""
    return ("fun", 0, (INT,), INT, ("sum", "add", ("name", names + 1), ONE))


def name(k):
    return ("name", k)


def let(thing, body):
    return ("let", thing, body)


class PassCase(Case):
    def all_the_same(self, program):
        """No pass does anything with it."""
        self.assertIsNone(core_judged(program))
        for told in (folded(program), inlined(program, 12), pruned(program), optimised(program)):
            self.assertEqual(told, program)

    def gives(self, call, program, wanted, *more):
        self.assertIsNone(core_judged(program))
        before = repr(program)
        told = call(program, *more)
        self.assertEqual(told, wanted)
        self.assertEqual(core_kind(0, (), told), INT)
        self.assertLessEqual(size_of(told), size_of(program))
        self.assertEqual(repr(program), before)
        for beats in range(6):
            outcome = run_core(program, beats)
            if outcome[0] == "done":
                self.assertEqual(run_core(told, beats), outcome)
            else:
                self.assertEqual(run_core(told, beats)[-1][:len(outcome[-1])], outcome[-1])
        change = {folded: fold, pruned: prune}.get(call) or inline(more[0] if more else None)
        self.assertEqual(passed(program, change), told)


class Sizes(Case):
    def test_size_of(self):
        for term, many in [(ONE, 1), (name(7), 1), (("sum", "add", ONE, TWO), 3), (("when", ONE, ONE, ("say", ONE)), 5), (F, 4), (("call", F, (INT, UNIT), (ONE, ONE)), 7), (("row", ()), 1), (("row", (ONE,) * 5), 6), (("part", ("row", (ONE,)), 0), 3),
                           (("tag", 0, ("one", (INT,)), ONE), 2), (("match", ONE, (ONE, ONE, ONE)), 5), (("cell", ONE), 2), (("get", ONE), 2), (("set", ONE, ONE), 3), (("fold", ("rec", ("cell", VAR)), ONE), 2), (("unfold", ONE), 2),
                           (("hide", INT, ONE, ("some", VAR)), 2), (("open", ONE, ONE), 3), (("spot", 3), 1), (let(ONE, let(ONE, ONE)), 5)]:
            self.assertEqual(size_of(term), many)
            self.assertEqual(size_of(term=term), many)
        self.assertEqual(size_of(nested("say", 3000, ONE)), 3001)
        for seed in range(20):
            program = CoreMaker(seed).program(40)
            self.assertEqual(size_of(program), len(terms_in(program)))


class Folded(PassCase):
    def folds(self, program, wanted):
        self.gives(folded, program, wanted)
        self.assertEqual(folded(program=program), wanted)

    def test_sums(self):
        for word, first, second, wanted in [("add", 2, 3, 5), ("take", 2, 3, -1), ("times", -2, 3, -6), ("less", 2, 3, 1), ("same", 2, 3, 0), ("add", 2 ** 31 - 1, 1, -2 ** 31), ("times", 65536, 65536, 0)]:
            self.folds(("sum", word, ("int", first), ("int", second)), ("int", wanted))
        self.folds(("sum", "add", ("sum", "add", ONE, TWO), ("sum", "times", TWO, TWO)), ("int", 7))
        self.folds(let(ONE, ("sum", "add", name(0), ONE)), let(ONE, ("sum", "add", name(0), ONE)))

    def test_whens(self):
        say = let(SAY, ONE)
        self.folds(("when", ("int", 0), say, TWO), say)
        self.folds(("when", ("int", -1), say, ("sum", "add", ONE, ONE)), TWO)
        self.folds(("when", ("sum", "same", ONE, TWO), say, TWO), say)
        self.folds(("when", say, ONE, TWO), ("when", say, ONE, TWO))

    def test_parts(self):
        self.folds(("part", ("row", (ONE, TWO)), 1), TWO)
        self.folds(("part", ("row", (F, ("row", (UNIT, ("sum", "add", ONE, ONE))), ONE)), 2), ONE)
        # A row that is no thing stays.
        program = ("part", ("row", (ONE, let(SAY, TWO))), 0)
        self.folds(program, program)
        self.folds(("part", ("row", (ONE, ("cell", TWO))), 0), ("part", ("row", (ONE, ("cell", TWO))), 0))
        self.folds(("part", ("part", ("row", (("row", (ONE, TWO)), F)), 0), 1), TWO)
        inside = let(("row", (ONE, TWO)), ("part", ("row", (("part", name(0), 1), ONE)), 0))
        self.folds(inside, inside)

    def test_matches(self):
        one = ("one", (INT, ("row", (INT, INT))))
        bodies = (("sum", "add", name(0), ONE), ("part", name(0), 1))
        self.folds(("match", ("tag", 0, one, TWO), bodies), let(TWO, bodies[0]))
        self.folds(("match", ("tag", 1, one, ("row", (ONE, TWO))), bodies), let(("row", (ONE, TWO)), bodies[1]))
        program = ("match", ("tag", 0, one, let(SAY, TWO)), bodies)
        self.folds(program, program)
        # What comes to be is not gone through again, but what stands around it is.
        self.folds(("sum", "add", ("match", ("tag", 0, one, TWO), (ONE, TWO)), ONE), ("sum", "add", let(TWO, ONE), ONE))
        self.folds(let(ONE, ("match", ("tag", 0, one, name(0)), (("sum", "add", name(1), name(0)), TWO))), let(ONE, let(name(0), ("sum", "add", name(1), name(0)))))

    def test_unfolds(self):
        rec = ("rec", ("row", (INT,)))
        self.folds(("part", ("unfold", ("fold", rec, ("row", (TWO,)))), 0), TWO)
        # What is in it may be no thing.
        self.folds(("part", ("unfold", ("fold", rec, ("row", (let(SAY, TWO),)))), 0), ("part", ("row", (let(SAY, TWO),)), 0))
        self.folds(let(("fold", rec, ("row", (TWO,))), ("part", ("unfold", name(0)), 0)), let(("fold", rec, ("row", (TWO,))), ("part", ("unfold", name(0)), 0)))
        one = ("rec", ("one", (UNIT, VAR)))
        self.folds(("match", ("unfold", ("fold", one, ("tag", 0, ("one", (UNIT, one)), UNIT))), (ONE, TWO)), let(UNIT, ONE))

    def test_nothing_is_left(self):
        for seed in range(150):
            program = CoreMaker(seed).program((10, 30, 60)[seed % 3])
            told = folded(program)
            self.assertEqual(folded(told), told)


class Inlined(PassCase):
    def inlines(self, program, count, wanted):
        self.gives(inlined, program, wanted, count)
        self.assertEqual(inlined(program=program, count=count), wanted)

    def test_bounds_of_lets(self):
        row = ("row", (ONE, TWO, F))
        self.assertEqual(size_of(row), 7)
        once = let(row, ("part", name(0), 1))
        for count in (0, 6):
            self.inlines(once, count, once)
        for count in (7, 8, 10 ** 89):
            self.inlines(once, count, ("part", row, 1))
        twice = let(row, ("sum", "add", ("part", name(0), 1), ("part", name(0), 0)))
        self.inlines(twice, 50, twice)
        self.inlines(let(row, ONE), 7, ONE)
        self.inlines(let(row, ONE), 6, let(row, ONE))
        # An int or a name stands however often, but it is a term, too.
        many = let(TWO, ("sum", "add", name(0), ("sum", "times", name(0), name(0))))
        self.inlines(many, 0, many)
        self.inlines(many, 1, ("sum", "add", TWO, ("sum", "times", TWO, TWO)))
        self.inlines(let(SAY, let(name(0), ("let", ("row", (name(1), name(1))), ("int", 3)))), 1, let(SAY, let(("row", (name(0), name(0))), ("int", 3))))
        self.inlines(let(F, ("sum", "add", ("call", name(0), (), (ONE,)), ("call", name(0), (), (ONE,)))), 50, let(F, ("sum", "add", ("call", name(0), (), (ONE,)), ("call", name(0), (), (ONE,)))))

    def test_what_is_no_thing_stays(self):
        for thing in (SAY, ("cell", ONE), ("row", (("cell", ONE),)), ("sum", "add", ONE, ONE), ("part", ("row", (ONE,)), 0), ("when", ONE, ONE, ONE), let(ONE, SAY)[:1] + (SAY, ONE)):
            program = let(thing, ONE)
            self.inlines(program, 50, program)

    def test_names_are_counted_anew(self):
        # Below the binders within, and behind the let that is gone.
        program = let(SAY, let(add_one(1), let(SAY, let(("cell", TWO), let(("call", name(1), (), (("get", name(3)),)), ("sum", "add", name(4), ("get", name(3))))))))
        self.inlines(program, 12, let(SAY, let(SAY, let(("cell", TWO), let(("call", add_one(3), (), (("get", name(2)),)), ("sum", "add", name(3), ("get", name(2))))))))
        inside = let(SAY, let(("row", (name(0), TWO)), ("call", ("fun", 1, (VAR,), INT, ("let", name(3), ("part", name(1), 1))), (UNIT,), (name(0),))))
        self.inlines(inside, 12, let(SAY, ("call", ("fun", 1, (VAR,), INT, ("part", ("row", (name(0), TWO)), 1)), (UNIT,), (name(0),))))

    def test_kind_variables_are_counted_anew(self):
        some = ("some", ("row", (VAR, ("to", 0, (VAR,), INT))))
        same = ("fun", 0, (INT,), INT, name(1))
        # A function with a kind variable of its own goes below an open and below another one.
        def pair(names, frees):
            """Where so many names and kind variables are in scope."""
            return ("fun", 1, (VAR,), INT, ("call", ("fun", 1, (VAR,), INT, TWO), (("free", frees),), (name(names + 1),)))

        def opened(called, row):
            return ("open", ("hide", INT, ("row", (ONE, row[1])), some), ("sum", "add", ("call", called, (FREE,), (("part", name(row[0]), 0),)), ("call", ("part", name(row[0]), 1), (), (("part", name(row[0]), 0),))))

        lower = ("fun", 0, (INT,), INT, name(2))
        self.inlines(let(pair(0, 0), opened(name(0), (1, lower))), 12, opened(pair(1, 1), (0, same)))
        # The kind variables of a function around it stay.
        around = ("fun", 1, (VAR,), INT, let(("fun", 1, (VAR, FREE), INT, ("let", ("row", (name(3), name(4))), TWO)), ("open", ("hide", FREE, name(1), ("some", VAR)), ("call", name(2), (("free", 1),), (name(3), name(1))))))
        self.assertIsNone(core_judged(("call", around, (INT,), (ONE,))))
        told = inlined(("call", around, (INT,), (ONE,)), 12)
        self.assertIsNone(core_judged(told))
        self.assertEqual(told[1][4][0], "open")
        self.assertEqual(told, passed(("call", around, (INT,), (ONE,)), inline(12)))

    def test_calls(self):
        two = ("fun", 0, (INT, ("to", 0, (INT,), INT)), INT, ("call", name(2), (), (("sum", "add", name(1), name(1)),)))
        # Arguments of any size, whatever the count is.
        self.inlines(("call", two, (), (ONE, F)), 0, ("call", F, (), (("sum", "add", ONE, ONE),)))
        self.inlines(("call", ("fun", 0, (), INT, TWO), (), ()), 0, TWO)
        # An argument that is no int or name, and is named twice; one that is no thing.
        twice = ("fun", 0, (("to", 0, (INT,), INT),), INT, ("call", name(1), (), (("call", name(1), (), (ONE,)),)))
        self.inlines(("call", twice, (), (F,)), 50, ("call", twice, (), (F,)))
        self.inlines(let(("part", ("row", (F,)), 0), ("call", twice[:4] + (("call", name(2), (), (("call", name(2), (), (ONE,)),)),), (), (name(0),))), 50, let(("part", ("row", (F,)), 0), ("call", name(0), (), (("call", name(0), (), (ONE,)),))))
        for term in (("sum", "add", ONE, ONE), let(SAY, ONE)):
            self.inlines(("call", F, (), (term,)), 50, ("call", F, (), (term,)))
        self.inlines(("call", ("fun", 0, (("row", (INT,)),), INT, TWO), (), (("row", (let(SAY, ONE),)),)), 50, ("call", ("fun", 0, (("row", (INT,)),), INT, TWO), (), (("row", (let(SAY, ONE),)),)))
        # Each argument by itself: the first, second and third one named twice.
        for at in range(3):
            kinds = tuple(("to", 0, (INT,), INT) if k == at else INT for k in range(3))
            terms = tuple(F if k == at else TWO for k in range(3))
            again = ("call", name(1 + at), (), (("call", name(1 + at), (), (ONE,)),))
            self.inlines(("call", ("fun", 0, kinds, INT, again), (), terms), 50, ("call", ("fun", 0, kinds, INT, again), (), terms))
            once = ("call", name(1 + at), (), (("sum", "add", name(1 + (at + 1) % 3), ("sum", "add", name(1 + (at + 2) % 3), name(1 + (at + 1) % 3))),))
            self.inlines(("call", ("fun", 0, kinds, INT, once), (), terms), 0, ("call", F, (), (("sum", "add", TWO, ("sum", "add", TWO, TWO)),)))
        # A function that names itself, and one with kind variables.
        self.inlines(("call", ("fun", 0, (INT,), INT, ("when", name(1), ONE, ("call", name(0), (), (ONE,)))), (), (ONE,)), 50, ("call", ("fun", 0, (INT,), INT, ("when", name(1), ONE, ("call", name(0), (), (ONE,)))), (), (ONE,)))
        self.inlines(("call", ("fun", 1, (VAR,), INT, ONE), (INT,), (ONE,)), 50, ("call", ("fun", 1, (VAR,), INT, ONE), (INT,), (ONE,)))
        # An argument that the body does not name; one that is named below binders.
        self.inlines(let(SAY, ("call", ("fun", 0, (INT, ("row", (INT, INT))), INT, let(SAY, ("sum", "add", name(0 + 4), name(2)))[:1] + (SAY, ("sum", "add", ("part", name(3), 0), name(2)))), (), (TWO, ("row", (ONE, TWO))))), 50,
                     let(SAY, let(SAY, ("sum", "add", ("part", ("row", (ONE, TWO)), 0), TWO))))

    def test_what_comes_to_be_is_not_gone_through_again(self):
        # The call that comes to be by the let is left to the next round.
        program = let(F, ("call", name(0), (), (ONE,)))
        self.inlines(program, 12, ("call", F, (), (ONE,)))
        self.inlines(("call", F, (), (ONE,)), 12, ("sum", "add", ONE, ONE))
        # From the inside out: what stands within was gone through ahead.
        self.inlines(let(ONE, let(("row", (name(0), name(0))), ("part", name(1), 0))), 12, ("part", ("row", (ONE, ONE)), 0))
        self.inlines(let(let(ONE, name(0)), ("sum", "add", name(0), name(0))), 12, ("sum", "add", ONE, ONE))


class Pruned(PassCase):
    def prunes(self, program, wanted):
        self.gives(pruned, program, wanted)
        self.assertEqual(pruned(program=program), wanted)

    def test_lets(self):
        great = ("row", (F,) * 20)
        self.prunes(let(great, ONE), ONE)
        self.prunes(let(SAY, let(add_one(1), let(SAY, ("when", TWO, ONE, let(name(0), ("get", ("cell", ONE))))))), let(SAY, let(SAY, ("when", TWO, ONE, ("get", ("cell", ONE))))))
        for thing in (SAY, ("cell", ONE), ("row", (ONE, ("cell", ONE))), ("sum", "add", ONE, ONE)):
            self.prunes(let(thing, ONE), let(thing, ONE))
        self.prunes(let(F, ("call", name(0), (), (ONE,))), let(F, ("call", name(0), (), (ONE,))))
        # From the inside out: a name that only such a let had is none any more.
        self.prunes(let(ONE, let(("row", (name(0), name(0))), TWO)), TWO)
        # Names behind the one that is gone are counted anew, those ahead of it are not.
        body = ("sum", "add", ("get", ("cell", ("part", ("row", (ONE, name(0), name(2))), 0))), ("get", name(3)))
        lower = ("sum", "add", ("get", ("cell", ("part", ("row", (ONE, name(0), name(1))), 0))), ("get", name(2)))
        self.prunes(let(SAY, let(ONE, let(SAY, let(("cell", TWO), body)))), let(SAY, let(SAY, let(("cell", TWO), lower))))

    def test_nothing_is_left(self):
        for seed in range(150):
            program = CoreMaker(seed).program((10, 30, 60)[seed % 3])
            told = pruned(program)
            self.assertEqual(pruned(told), told)


class Optimised(PassCase):
    def test_rounds(self):
        self.assertEqual(optimised(let(F, ("call", name(0), (), (ONE,)))), TWO)
        self.assertEqual(optimised(program=("sum", "add", ONE, ("when", ("int", 0), TWO, ONE))), ("int", 3))
        self.all_the_same(let(SAY, ONE))
        self.all_the_same(let(("cell", ONE), ("sum", "add", ("get", name(0)), ("get", name(0)))))
        # Things greater than 12 are not inlined, but pruned.
        great = ("row", (ONE,) * 12)
        self.assertEqual(size_of(great), 13)
        self.all_the_same(let(SAY, let(("row", (name(0),) * 12), ("sum", "add", ONE, ("get", ("cell", let(("cell", name(1)), TWO)))))))
        self.assertEqual(optimised(let(great, ONE)), ONE)
        self.assertEqual(optimised(let(("row", (ONE,) * 11), ("part", name(0), 4))), ONE)

    def test_kind_variables_of_what_goes_further_within(self):
        # The thing goes below an open and a function with kind variables of its own.
        some = ("some", ("row", (VAR, ("to", 0, (VAR,), INT))))
        body = ("call", ("call", name(0), (("to", 0, (("free", 0),), INT),), (("part", name(1), 1),)), (), (("part", name(1), 0),))
        program = let(("fun", 1, (VAR,), VAR, name(1)), ("open", ("hide", INT, ("row", (ONE, ("fun", 0, (INT,), INT, ("let", ("say", name(2)), name(2))))), some), body))
        poly = let(("fun", 1, (VAR,), INT, ("call", ("fun", 1, (VAR,), INT, TWO), (FREE,), (name(1),))), ("open", ("hide", INT, ONE, ("some", VAR)), let(("cell", ONE), ("call", name(0), (FREE,), (name(1),)))))
        for whole in (program, poly):
            self.assertIsNone(core_judged(whole))
            told = optimised(whole)
            self.assertIsNone(core_judged(told))
            self.assertEqual(told, naive_optimised(whole))
            self.assertEqual(run_core(told, 50), run_core(whole, 50))

    def test_at_most_eight_rounds(self):
        for many in (3, 9, 12, 20):
            term = ("int", 3)
            for _ in range(many):
                term = ("call", ("fun", 0, (), INT, term), (), ())
            self.assertEqual(optimised(term), naive_optimised(term))
        kinds = [INT]
        for _ in range(14):
            kinds.append(("to", 0, (), kinds[-1]))

        def maker(level, names):
            """A function that gives a function, and so on, and at last an int."""
            if level == 0:
                return ("int", 3)
            return ("fun", 0, (), kinds[level - 1], let(maker(level - 1, names + 1), name(names + 1)))

        for many in range(1, 14):
            term = maker(many, 0)
            for _ in range(many):
                term = ("call", term, (), ())
            self.assertIsNone(core_judged(term))
            self.assertEqual(optimised(term), naive_optimised(term))
        # A call that comes to be by a call is left to the next round: of 2 * n + 1 calls one each round.
        for many in range(1, 10):
            term = ("call", self.asking(many, 0), (), (self.asked(many, 0),))
            told = optimised(term)
            self.assertEqual(told, naive_optimised(term))
            self.assertEqual(told == ONE, 2 * many + 1 <= 8)

    def kind_of_asking(self, level):
        return ("to", 0, (("to", 0, (self.kind_of_asking(level - 1),), INT),), INT) if level else ("to", 0, (), INT)

    def asking(self, level, names):
        """A function that calls what it is handed with the one of the level below."""
        if level == 0:
            return ("fun", 0, (), INT, ONE)
        return ("fun",) + self.kind_of_asking(level)[1:] + (("call", name(names + 1), (), (self.asking(level - 1, names + 2),)),)

    def asked(self, level, names):
        """A function that calls what it is handed, an asking one of the level below, with what this one asks for."""
        given = () if level == 1 else (self.asked(level - 1, names + 2),)
        return ("fun", 0, (self.kind_of_asking(level - 1),), INT, ("call", name(names + 1), (), given))

    def test_as_told_plainly(self):
        unlike = {}
        for seed in range(250):
            program = CoreMaker(seed).program((8, 20, 40, 80)[seed % 4])
            for call, change in ((folded, fold), (pruned, prune), (lambda term: inlined(term, seed % 9), inline(seed % 9)), (lambda term: inlined(term, 400), inline(400))):
                told = call(program)
                self.assertEqual(told, passed(program, change))
                self.assertEqual(core_kind(0, (), told), INT)
                unlike[told != program] = unlike.get(told != program, 0) + 1
            told = optimised(program)
            self.assertEqual(told, naive_optimised(program))
            self.assertLessEqual(size_of(told), size_of(program))
            for beats in (0, 1, 2, 5, 30):
                outcome, other = run_core(program, beats), run_core(told, beats)
                if outcome[0] == "done":
                    self.assertEqual(other, outcome)
                self.assertEqual(other[-1][:len(outcome[-1])], outcome[-1])
        self.assertGreater(min(unlike.values()), 100)

    def test_texts(self):
        for program, number, letters in cores():
            told = optimised(program)
            self.assertEqual(told, naive_optimised(program))
            self.assertEqual(run_core(told, 1000), ("done", number, letters))
            for beats in range(20):
                if run_core(program, beats)[0] == "done":
                    self.assertEqual(run_core(told, beats)[0], "done")

    def test_great_ones(self):
        begun = time.time()
        body = name(18)
        for _ in range(19):
            body = ("part", body, 0)
        whole = body
        for k in reversed(range(19)):
            whole = let(("row", (name(k - 1),)) if k else ("row", (ONE,)), whole)
        self.assertIsNone(core_judged(whole))
        self.assertEqual(optimised(whole), ONE)
        self.assertLess(time.time() - begun, 10)


class Errors(Case):
    def test_ill_kinded(self):
        for value in STRANGE:
            place = core_judged(value)
            for call in (folded, pruned, optimised):
                if place is not None:
                    self.fails(IllKinded, "place", place, call, value)
            if place is not None:
                self.fails(IllKinded, "place", place, inlined, value, -1)
        self.fails(IllKinded, "place", (3,), folded, ("sum", "add", ONE, ("sum", "add", ONE, UNIT)))

    def test_invalid_count(self):
        for count in (-1, True, False, None, "1", (), -10 ** 89):
            self.fails(InvalidCount, None, None, inlined, ONE, count)
            self.fails(IllKinded, "place", (), inlined, UNIT, count)


if __name__ == "__main__":
    unittest.main()
