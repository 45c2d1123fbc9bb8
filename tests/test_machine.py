import random
import time
import unittest

from kindscarried.errors import IllKinded, InvalidCount
from kindscarried.looker import looked
from kindscarried.machine import first_state, run, run_any, step
from tests.changes import changed, part_at, places_in, with_part
from tests.common import STRANGE, Case, nested
from tests.naive_code import CodeMaker
from tests.naive_machine import naive_run, naive_step

INT = ("int",)
ONE = ("int", 1)
ZERO = ("int", 0)
HALT = ("halt", ONE)
SOME = ("some", ("var", 0))


def reg(r):
    return ("register", r)


def label(b):
    return ("label", b)


REGISTERS = (("int", 7), ("place", 0), ("place", 1), ("place", 2), ("label", 1), None, ("label", 3), ("int", 0), ("place", 3), ("place", 4))
THINGS = (("room", (("int", 4), None, ("place", 2))), ("tagged", 1, ("label", 2)), ("cell", ("int", 9)), ("tagged", 2, ONE))


class StepCase(Case):
    def code(self, *rows, end=HALT):
        """Block 0 has the rows; two more blocks do nothing, so that label 3 is none."""
        empty = (0, (), (), HALT)
        return (len(REGISTERS), ((0, (), rows, end), empty, empty))

    def steps(self, code, state, wanted):
        before = repr((code, state))
        self.assertEqual(step(code, state), wanted)
        self.assertEqual(step(code=code, state=state), wanted)
        self.assertEqual(naive_step(code, state), wanted)
        self.assertEqual(repr((code, state)), before)

    def on(self, row, registers=REGISTERS, things=THINGS, said=None, at=(0, 1)):
        self.steps(self.code(row), (REGISTERS, THINGS, 0, 0), ("on", (registers, things) + at, said))

    def stuck(self, row, word):
        self.steps(self.code(row), (REGISTERS, THINGS, 0, 0), ("stuck", word))

    def end(self, end, wanted):
        self.steps(self.code(end=end), (REGISTERS, THINGS, 0, 0), wanted)


def wrote(r, worth):
    return REGISTERS[:r] + (worth,) + REGISTERS[r + 1:]


def changed_thing(address, thing):
    return THINGS[:address] + (thing,) + THINGS[address + 1:]


class Steps(StepCase):
    def test_first_state(self):
        for registers in (1, 8, 32):
            code = (registers, ((0, (), (), HALT),))
            self.assertEqual(first_state(code), ((None,) * registers, (), 0, 0))
            self.assertEqual(first_state(code=code), ((None,) * registers, (), 0, 0))

    def test_words(self):
        for word, worth in [(("int", -5), ("int", -5)), (reg(0), ("int", 7)), (reg(1), ("place", 0)), (label(7), ("label", 7)), (("at", label(1), (INT,)), ("label", 1)), (("hide", INT, reg(2), SOME), ("place", 1)),
                            (("fold", ("rec", INT), reg(4)), ("label", 1)), (("unfold", reg(0)), ("int", 7)), (("unfold", ("fold", INT, ("hide", INT, ("at", reg(8), ()), INT))), ("place", 3)), (nested("unfold", 59, ONE), ONE)]:
            self.on(("move", 5, word), wrote(5, worth))
            self.on(("open", 0, word), wrote(0, worth))
            self.on(("cell", 3, word), wrote(3, ("place", 4)), THINGS + (("cell", worth),))
        for word in (reg(5), reg(10), reg(2 ** 35 - 1), ("at", reg(5), ()), ("hide", INT, ("unfold", reg(77)), SOME)):
            self.stuck(("move", 0, word), "no-register")
            self.stuck(("open", 0, word), "no-register")
            self.stuck(("cell", 0, word), "no-register")

    def test_sums(self):
        self.on(("sum", "take", 0, reg(0), ("int", 9)), wrote(0, ("int", -2)))
        self.on(("sum", "times", 5, reg(0), reg(0)), wrote(5, ("int", 49)))
        self.on(("sum", "less", 9, ONE, reg(0)), wrote(9, ("int", 1)))
        self.on(("sum", "same", 9, ONE, reg(0)), wrote(9, ("int", 0)))
        self.on(("sum", "add", 9, ("int", 2 ** 31 - 1), ONE), wrote(9, ("int", -2 ** 31)))
        # What is met first: a word is read, then asked, then the next one is read.
        for first, second, word in [(reg(1), reg(5), "no-int"), (reg(5), reg(1), "no-register"), (reg(0), reg(5), "no-register"), (reg(0), reg(4), "no-int"), (label(0), ONE, "no-int")]:
            self.stuck(("sum", "add", 0, first, second), word)

    def test_rooms(self):
        self.on(("room", 0, ()), wrote(0, ("place", 4)), THINGS + (("room", ()),))
        self.on(("room", 5, (INT, INT, INT)), wrote(5, ("place", 4)), THINGS + (("room", (None,) * 3),))
        self.on(("load", 5, reg(1), 0), wrote(5, ("int", 4)))
        self.on(("load", 1, reg(1), 2), wrote(1, ("place", 2)))
        self.on(("store", 1, 1, reg(1)), REGISTERS, changed_thing(0, ("room", (("int", 4), ("place", 0), ("place", 2)))))
        self.on(("store", 1, 0, label(2)), REGISTERS, changed_thing(0, ("room", (("label", 2), None, ("place", 2)))))
        for word, index, told in [(reg(5), 0, "no-register"), (reg(10), 9, "no-register"), (reg(0), 0, "no-place"), (label(0), 0, "no-place"), (reg(9), 0, "no-place"), (reg(2), 0, "no-room"), (reg(3), 0, "no-room"), (reg(1), 3, "no-room"),
                                  (reg(1), 2 ** 35 - 1, "no-room"), (reg(1), 1, "not-set")]:
            self.stuck(("load", 0, word, index), told)
        for r, index, word, told in [(5, 0, ONE, "no-register"), (0, 0, ONE, "no-place"), (9, 0, ONE, "no-place"), (2, 0, ONE, "no-room"), (1, 3, reg(5), "no-room"), (1, 1, reg(5), "no-register"), (0, 0, reg(5), "no-place"), (3, 0, reg(5), "no-room")]:
            self.stuck(("store", r, index, word), told)

    def test_tagged_and_cells(self):
        self.on(("tagged", 2, 5, ("one", ()), reg(0)), wrote(2, ("place", 4)), THINGS + (("tagged", 5, ("int", 7)),))
        self.stuck(("tagged", 2, 5, ("one", ()), reg(5)), "no-register")
        self.on(("get", 0, reg(3)), wrote(0, ("int", 9)))
        self.on(("set", 3, reg(3)), REGISTERS, changed_thing(2, ("cell", ("place", 2))))
        for word, told in [(reg(5), "no-register"), (ONE, "no-place"), (reg(9), "no-place"), (reg(1), "no-cell"), (reg(2), "no-cell")]:
            self.stuck(("get", 0, word), told)
        for r, word, told in [(5, ONE, "no-register"), (0, reg(5), "no-place"), (4, ONE, "no-place"), (9, ONE, "no-place"), (1, reg(5), "no-cell"), (3, reg(5), "no-register")]:
            self.stuck(("set", r, word), told)

    def test_say_and_branch(self):
        self.on(("say", reg(0)), said=7)
        self.on(("say", ZERO), said=0)
        self.stuck(("say", reg(1)), "no-int")
        self.stuck(("say", reg(5)), "no-register")
        self.on(("branch", ZERO, label(2)), at=(2, 0))
        self.on(("branch", reg(7), reg(4)), at=(1, 0))
        self.on(("branch", reg(7), ("at", label(0), (INT,))), at=(0, 0))
        # What it would go to is read only if it goes there.
        for word in (reg(5), ONE, label(3), reg(6), reg(77)):
            self.on(("branch", reg(0), word))
        for first, second, told in [(reg(5), label(1), "no-register"), (reg(1), label(1), "no-int"), (label(1), reg(5), "no-int"), (ZERO, reg(5), "no-register"), (ZERO, ONE, "no-label"), (ZERO, reg(1), "no-label"), (ZERO, label(3), "no-label"),
                                    (ZERO, reg(6), "no-label"), (ZERO, label(2 ** 35 - 1), "no-label")]:
            self.stuck(("branch", first, second), told)

    def test_ends(self):
        state = (REGISTERS, THINGS)
        self.end(("halt", reg(0)), ("halt", 7))
        self.end(("halt", ("int", -3)), ("halt", -3))
        self.end(("jump", label(2)), ("on", state + (2, 0), None))
        self.end(("jump", ("at", reg(4), ())), ("on", state + (1, 0), None))
        for word, told in [(reg(5), "no-register"), (reg(77), "no-register")]:
            self.end(("halt", word), ("stuck", told))
            self.end(("jump", word), ("stuck", told))
        for word in (reg(1), label(1)):
            self.end(("halt", word), ("stuck", "no-int"))
        for word in (ONE, reg(1), label(3), reg(6)):
            self.end(("jump", word), ("stuck", "no-label"))

    def test_pick(self):
        got = (wrote(2, ("label", 2)), THINGS)
        self.end(("pick", 2, (label(0), label(1))), ("on", got + (1, 0), None))
        # The word is read behind what the register gets; the words of other indexes are not read.
        self.end(("pick", 2, (reg(5), reg(2))), ("on", got + (2, 0), None))
        self.end(("pick", 8, (reg(5), reg(5), label(1), ONE)), ("on", (wrote(8, ONE), THINGS, 1, 0), None))
        for r, words, told in [(5, (), "no-register"), (10, (), "no-register"), (2 ** 35 - 1, (), "no-register"), (0, (), "no-place"), (9, (), "no-place"), (1, (), "no-tagged"), (3, (), "no-tagged"), (2, (), "no-way"), (2, (label(0),), "no-way"),
                               (8, (label(0), label(0)), "no-way"), (2, (label(0), reg(5)), "no-register"), (2, (label(0), ONE), "no-label"), (8, (label(0), label(0), reg(8)), "no-label"), (2, (label(0), label(3)), "no-label")]:
            self.end(("pick", r, words), ("stuck", told))

    def test_code_that_nobody_looked_at(self):
        # Steps of code changed by chance, from states that a run came to, and states changed by chance.
        words = {}
        for seed in range(60):
            rng = random.Random(seed)
            code = CodeMaker(seed).made()
            _, states = naive_run(code, 20)
            for _ in range(60):
                state = rng.choice(states)
                other = self.mangled(rng, code)
                if rng.random() < 0.5:
                    registers = list(state[0])
                    registers[rng.randrange(len(registers))] = rng.choice([None, ("int", 0), ("label", 2), ("label", 9), ("place", 0), ("place", 50)])
                    state = (tuple(registers),) + state[1:]
                if state[2] < len(other[1]) and state[3] <= len(other[1][state[2]][2]):
                    told = step(other, state)
                    self.assertEqual(told, naive_step(other, state))
                    words[told[:1 + (told[0] == "stuck")]] = True
        self.assertGreater(len(words), 6)

    def mangled(self, rng, code):
        """Other code of the shape: some words, numbers and indexes in rows and ends are others."""
        blocks = [place for place in places_in(code) if len(place) > 3 and place[0] == 1 and place[2] in (2, 3)]
        for _ in range(6):
            place = rng.choice(blocks)
            part = part_at(code, place)
            if type(part) is tuple and part[:1] in (("register",), ("label",)):
                code = with_part(code, place, rng.choice([("register", rng.randrange(7)), ("label", rng.randrange(8)), ("int", rng.randrange(3))]))
                blocks = [place for place in places_in(code) if len(place) > 3 and place[0] == 1 and place[2] in (2, 3)]
        return code


class Runs(Case):
    def runs(self, code, wanted):
        """wanted leads from beats to outcomes."""
        for beats, outcome in wanted.items():
            self.assertEqual(run_any(code, beats), outcome)
            self.assertEqual(run_any(code=code, beats=beats), outcome)
            self.assertEqual(naive_run(code, beats)[0], outcome)
            if looked(code) is None:
                self.assertEqual(run(code, beats), outcome)
                self.assertEqual(run(code=code, beats=beats), outcome)

    def test_beats(self):
        say = ("say", ONE)
        empty = (0, (), (say,), HALT)
        self.runs((1, (empty,)), {0: ("done", 1, (1,)), 5: ("done", 1, (1,))})
        self.runs((1, ((0, (), (say,), ("jump", label(1))), empty)), {0: ("spent", (1,)), 1: ("done", 1, (1, 1))})
        # A branch that is not taken is no beat.
        self.runs((1, ((0, (), (("branch", ONE, label(1)), say), HALT), empty)), {0: ("done", 1, (1,))})
        self.runs((1, ((0, (), (("branch", ZERO, label(1)), say), HALT), (0, (), (("say", ("int", 2)),), HALT))), {0: ("spent", ()), 1: ("done", 1, (2,))})
        one = ("one", (INT,))
        self.runs((1, ((0, (), (("tagged", 0, 0, one, ("int", 4)), say), ("pick", 0, (label(1),))), (0, ((0, INT),), (("say", reg(0)),), ("halt", reg(0))))), {0: ("spent", (1,)), 1: ("done", 4, (1, 4))})
        self.runs((1, ((0, (), (say,), ("jump", label(0))),)), {0: ("spent", (1,)), 3: ("spent", (1,) * 4)})

    def test_stuck(self):
        # A step that is stuck takes no beat: it is told though none is left.
        say = ("say", ("int", 3))
        for end, word in [(("jump", ONE), "no-label"), (("jump", reg(0)), "no-register"), (("jump", label(4)), "no-label"), (("halt", label(0)), "no-int"), (("pick", 0, ()), "no-register"), (("pick", 3, ()), "no-register")]:
            self.runs((2, ((0, (), (say, say), end),)), {0: ("stuck", word, (3, 3)), 9: ("stuck", word, (3, 3))})
        self.runs((2, ((0, (), (say, ("branch", ZERO, ONE)), HALT),)), {0: ("stuck", "no-label", (3,))})
        one = ("one", (INT,))
        for words, word in [((), "no-way"), ((ONE,), "no-label"), ((reg(1),), "no-register"), ((reg(0),), "no-label")]:
            self.runs((2, ((0, (), (("tagged", 0, 0, one, ONE), say), ("pick", 0, words)),)), {0: ("stuck", word, (3,))})
        # Kinds play no part.
        self.runs((2, ((0, (), (("move", 0, ("hide", None, ("fold", 5, ("at", label(1), [])), ()),), say), ("jump", reg(0))), (7, None, (), ("halt", ("unfold", ONE))))), {0: ("spent", (3,)), 1: ("done", 1, (3,))})

    def test_what_the_looker_lets_by_is_never_stuck(self):
        ends = {}
        for seed in range(80):
            rng = random.Random(seed)
            code = CodeMaker(seed).made()
            for value in [code] + [changed(rng, code) for _ in range(40)]:
                if looked(value) is None:
                    for beats in (0, 1, 2, 9):
                        outcome, states = naive_run(value, beats)
                        self.assertEqual(run(value, beats), outcome)
                        self.assertEqual(run_any(value, beats), outcome)
                        self.assertNotEqual(outcome[0], "stuck")
                        for state in states[:10]:
                            self.assertEqual(step(value, state), naive_step(value, state))
                    ends[outcome[0]] = ends.get(outcome[0], 0) + 1
        self.assertGreater(min(ends.values()), 50)

    def test_thousands_of_beats(self):
        begun = time.time()
        rows = (("say", reg(0)), ("sum", "take", 0, reg(0), ONE), ("branch", reg(0), label(2)))
        code = (2, ((0, (), (("move", 0, ("int", 15000)),), ("jump", label(1))), (0, ((0, INT),), rows, ("jump", label(1))), (0, (), (), ("halt", ("int", 5)))))
        said = tuple(range(15000, 0, -1))
        self.assertEqual(run(code, 20000), ("done", 5, said))
        self.assertEqual(run(code, 15001), ("done", 5, said))
        self.assertEqual(run(code, 15000), ("spent", said))
        self.assertEqual(run(code, 100), ("spent", said[:100]))
        many = (1, tuple((0, (), (("cell", 0, ONE),) * 10, ("jump", label((b + 1) % 50))) for b in range(50)))
        self.assertEqual(run(many, 20000), ("spent", ()))
        self.assertLess(time.time() - begun, 8)

    def test_errors(self):
        right = (1, ((0, (), (), HALT),))
        ill = (1, ((0, (), (("say", reg(0)),), HALT),))
        for beats in (-1, True, None, "1", (), -10 ** 89):
            self.fails(InvalidCount, None, None, run, right, beats)
            self.fails(InvalidCount, None, None, run_any, right, beats)
            self.fails(IllKinded, "place", (0, 0), run, ill, beats)
            self.fails(InvalidCount, None, None, run_any, ill, beats)
        for value in STRANGE:
            self.fails(IllKinded, "place", looked(value), run, value, 5)
        self.assertEqual(run_any(ill, 10 ** 89), ("stuck", "no-register", ()))
        self.assertEqual(run(right, 10 ** 89), ("done", 1, ()))


if __name__ == "__main__":
    unittest.main()
