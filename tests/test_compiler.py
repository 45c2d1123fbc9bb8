import time
import unittest

from kindscarried.closed import closed_judged
from kindscarried.compiler import beat_factor, compiled, compiled_text, run_level, stages
from kindscarried.core_looker import core_judged
from kindscarried.core_parts import size_of
from kindscarried.core_run import run_core
from kindscarried.errors import Clash, IllKinded, InvalidCount, InvalidPart, InvalidText, TooMany, Twice, Unfit, Unknown
from kindscarried.looker import looked
from kindscarried.machine import run
from kindscarried.passes import optimised
from kindscarried.source_run import run_source
from kindscarried.source_texts import source_told
from kindscarried.stored import stored_judged
from kindscarried.to_core import to_core
from kindscarried.turns_looker import turns_judged
from tests.common import STRANGE, Case
from tests.naive_code import code_fault
from tests.naive_lookers import closed_fault, stored_fault
from tests.programs import LIST, TEXTS, cores
from tests.random_core import CoreMaker
from tests.random_programs import Maker

INT = ("int",)
ONE = ("int", 1)
UNIT = ("row", ())
SMALL = ("let", ("say", ("int", 3)), ("sum", "add", ("int", 4), ("int", 5)))


class Whole(Case):
    def compiles(self, core, registers, beats):
        """The fact of the whole, at these numbers of beats; the five programs."""
        before = repr(core)
        told = stages(core, registers)
        self.assertIs(type(told), tuple)
        self.assertEqual(len(told), 5)
        self.assertEqual(told[0], core)
        self.assertEqual([core_judged(told[0]), turns_judged(told[1]), closed_judged(told[2]), stored_judged(told[3]), looked(told[4])], [None] * 5)
        self.assertEqual(told[4][0], registers)
        self.assertEqual(repr(core), before)
        factor = beat_factor(core)
        self.assertEqual(factor, size_of(core) + 2)
        for b in beats:
            outcome = run_core(core, b)
            self.assertEqual(run_level(0, core, b), outcome)
            later = [run_level(level, told[level], factor * (b + 1)) for level in range(1, 5)]
            same = [run_level(level, told[level], b) for level in range(1, 5)]
            self.assertEqual(later, later[:1] * 4)
            self.assertEqual(same, same[:1] * 4)
            if outcome[0] == "done":
                self.assertEqual(later[0], outcome)
            if same[0][0] == "done":
                self.assertEqual(same[0], outcome)
            self.assertEqual(later[0][-1][:len(outcome[-1])], outcome[-1])
            self.assertEqual(outcome[-1][:len(same[0][-1])], same[0][-1])
        return told

    def test_texts(self):
        for core, number, letters in cores():
            for registers in (8, 11, 32):
                try:
                    told = self.compiles(core, registers, (0, 1, 2, 5, 20))
                except TooMany as error:
                    self.assertEqual((error.count, registers), (6, 8))
                    continue
                self.assertEqual(run(told[4], 2000), ("done", number, letters))
                self.assertEqual(compiled(core, registers), told[4])
                self.assertEqual(compiled(program=core, registers=registers), told[4])
                self.assertEqual(stages(program=core, registers=registers), told)

    def test_by_chance(self):
        for seed in range(40):
            told = self.compiles(CoreMaker(seed).program((8, 25, 60, 120)[seed % 4]), (10, 14, 32)[seed % 3], (0, 1, 3, 10))
            if seed % 8 == 0:
                self.assertIsNone(closed_fault(told[2]))
                self.assertIsNone(stored_fault(told[3]))
                self.assertIsNone(code_fault(told[4]))

    def test_from_source_to_code(self):
        done = 0
        for seed in range(60):
            program = Maker(seed).program()
            try:
                core = to_core(program)
            except (Clash, Unknown, Unfit, TooMany, Twice):
                continue
            done += 1
            told = self.compiles(core, 32, (0, 2, 9))
            for b in (0, 1, 4, 30):
                outcome = run_source(program, b)
                if outcome[0] == "done":
                    self.assertEqual(run(told[4], beat_factor(core) * (2 * b + 1)), outcome)
        self.assertGreater(done, 15)


class Parts(Case):
    def test_beat_factor(self):
        self.assertEqual(beat_factor(ONE), 3)
        self.assertEqual(beat_factor(program=SMALL), 8)
        for value in STRANGE:
            self.fails(IllKinded, "place", core_judged(value), beat_factor, value)

    def test_run_level(self):
        told = stages(SMALL, 8)
        for level in range(5):
            self.assertEqual(run_level(level, told[level], 0), ("done", 9, (3,)))
            self.assertEqual(run_level(index=level, program=told[level], beats=5), ("done", 9, (3,)))
            for value in STRANGE:
                if not (level == 0 and value == INT):
                    place = [core_judged, turns_judged, closed_judged, stored_judged, looked][level](value)
                    self.fails(IllKinded, "place", place, run_level, level, value, -1)
            for beats in (-1, True, None, "1"):
                self.fails(InvalidCount, None, None, run_level, level, told[level], beats)
        # An index that is none, ahead of all others.
        for index in (-1, 5, True, False, None, "0", (), 10 ** 89):
            for program in (told[0], None):
                self.fails(InvalidPart, None, None, run_level, index, program, -1)

    def test_errors_of_stages(self):
        great = ("call", ("fun", 0, (INT,) * 8, INT, ("name", 1)), (), (ONE,) * 8)
        for call in (stages, compiled):
            for registers in (7, 33, 0, -1, True, None, "8", 10 ** 89):
                self.fails(InvalidCount, None, None, call, SMALL, registers)
                self.fails(InvalidCount, None, None, call, great, registers)
                self.fails(IllKinded, "place", (), call, UNIT, registers)
            for value in STRANGE:
                self.fails(IllKinded, "place", core_judged(value), call, value, 7)
            self.fails(TooMany, "count", 6, call, great, 8)
            self.assertIsNotNone(call(great, 16))

    def test_compiled_text(self):
        for text, number, letters in TEXTS:
            core = to_core(source_told(text))
            plain = compiled_text(text, 32, False)
            better = compiled_text(text, 32, True)
            self.assertEqual(plain, compiled(core, 32))
            self.assertEqual(better, compiled(optimised(core), 32))
            self.assertEqual(run(better, 2000), ("done", number, letters))
        text = TEXTS[2][0]
        # Only True itself makes it optimised.
        plain, better = compiled_text(text, 12, False), compiled_text(text=text, registers=12, optimise=True)
        self.assertNotEqual(plain, better)
        for value in (None, 0, 1, "True", (True,), [], 5):
            self.assertEqual(compiled_text(text, 12, value), plain)

    def test_errors_of_texts(self):
        for optimise in (True, False, None):
            for registers in (8, 7, None):
                self.fails(InvalidText, "index", 4, compiled_text, "1 + 007", registers, optimise)
                self.fails(InvalidText, "index", 0, compiled_text, None, registers, optimise)
                self.fails(TooMany, "count", 20, compiled_text, "( say 1 ; " * 30 + "1" + ")" * 30, registers, optimise)
                self.fails(Unknown, "word", "x", compiled_text, "x", registers, optimise)
                self.fails(Twice, "word", "x", compiled_text, "fn ( x , x ) x", registers, optimise)
                self.fails(Clash, "places", ((0,), ()), compiled_text, "( fn ( x ) x + 1 ) ( ( ) )", registers, optimise)
                self.fails(Clash, "places", ((), ()), compiled_text, "( )", registers, optimise)
            for registers in (7, 33, True, None):
                self.fails(InvalidCount, None, None, compiled_text, "1", registers, optimise)
        wide = "fun f ( a , b , c , d , e , g ) = if a then f ( g , e , d , c , b , a ) else b in f ( 1 , 2 , 3 , 4 , 5 , 6 )"
        self.fails(TooMany, "count", 6, compiled_text, wide, 8, False)
        self.assertEqual(run(compiled_text(wide, 12, True), 5)[0], "spent")

    def test_in_some_seconds(self):
        begun = time.time()
        nest = "fun f ( n ) = if n then f ( n - 1 ) else 7 in "
        rows = " + ".join(["f ( %d )" % k for k in range(15)])
        text = nest + rows
        code = compiled_text(text, 8, False)
        self.assertEqual(run(code, 20000), ("done", 105, ()))
        deep = LIST + "fun id ( x ) = x in " + "".join("let a%d = Cons ( %s , Nil ) in " % (k, "id ( %d )" % k) for k in range(15)) + "match a3 { Nil -> 0 | Cons ( x , r ) -> x }"
        self.assertEqual(run(compiled_text(deep, 8, False), 200), ("done", 3, ()))
        self.assertEqual(run(compiled_text(deep, 8, True), 200), ("done", 3, ()))
        great = CoreMaker(10).program(300)
        self.assertEqual(run(compiled(great, 12), beat_factor(great) * 51), run_core(great, 50))
        self.assertLess(time.time() - begun, 12)


if __name__ == "__main__":
    unittest.main()
