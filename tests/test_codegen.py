import random
import time
import unittest

from kindscarried.alive import width_of
from kindscarried.closing import closed_of
from kindscarried.codegen import code_kind_of, coded
from kindscarried.errors import IllKinded, InvalidCount, TooMany
from kindscarried.kinds import CODE_WORDS, filled, fits, is_kind, opened, opened_first, shut, unfolded
from kindscarried.looker import looked
from kindscarried.machine import run
from kindscarried.source_texts import source_told
from kindscarried.stored import run_stored, stored_judged
from kindscarried.storing import stored_of
from kindscarried.to_core import to_core
from kindscarried.to_turns import to_turns
from tests.changes import changed
from tests.common import STRANGE, Case
from tests.naive_code import code_fault
from tests.programs import LIST, TEXTS, cores
from tests.random_core import CoreMaker
from tests.random_stored import StoredMaker
from tests.test_narrowing import ints, name, rows_and_ends, says

INT = ("int",)
VAR = ("var", 0)
FREE = ("free", 0)
ONE = ("int", 1)
HALT = ("halt", ONE)
EMPTY = ((), HALT)
UNIT = ("room", ())
BOTH = ("one", (INT, INT))


def stored_kind(rng, free, bound, depth=3):
    """A kind of the stored level by chance."""
    sort = rng.randrange(12) if depth else rng.randrange(4)
    if sort == 0 and free:
        return ("free", rng.randrange(free))
    if sort == 1 and bound:
        return ("var", rng.randrange(bound))
    if sort < 5:
        return INT
    inner = [stored_kind(rng, free, bound, depth - 1) for _ in range(rng.randrange(1, 4))]
    if sort < 7:
        return ("room", tuple((kind, rng.random() < 0.5) for kind in inner))
    if sort == 7:
        return ("one", tuple(inner))
    if sort == 8:
        return ("cell", inner[0])
    if sort == 9:
        return ("some", stored_kind(rng, free, bound + 1, depth - 1))
    if sort == 10:
        return ("rec", ("room", ((stored_kind(rng, free, bound + 1, depth - 1), True),)))
    many = rng.randrange(3)
    return ("not", many, tuple(stored_kind(rng, free, bound + many, depth - 1) for _ in range(rng.randrange(4))))


class Kinds(Case):
    def kind(self, kind, wanted):
        self.assertEqual(code_kind_of(kind), wanted)
        self.assertEqual(code_kind_of(kind=kind), wanted)

    def test_words(self):
        for kind in (INT, FREE, ("free", 7), ("cell", INT), ("room", ()), ("room", ((INT, True), (FREE, False))), ("one", (INT, UNIT)), ("some", VAR), ("rec", ("one", (VAR,)))):
            self.kind(kind, kind)
        self.kind(("not", 0, ()), ("code", 0, ()))
        self.kind(("not", 0, (INT, UNIT)), ("code", 0, ((0, INT), (1, UNIT))))
        self.kind(("not", 2, (("var", 1), FREE, VAR)), ("code", 2, ((0, ("var", 1)), (1, FREE), (2, VAR))))

    def test_within_others(self):
        deed, wanted = ("not", 1, (VAR, ("var", 1))), ("code", 1, ((0, VAR), (1, ("var", 1))))
        for shell in (lambda kind: ("room", ((kind, False), (INT, True), (kind, True))), lambda kind: ("one", (INT, kind)), lambda kind: ("cell", kind), lambda kind: ("some", kind), lambda kind: ("rec", ("cell", kind))):
            self.kind(shell(deed), shell(wanted))
        self.kind(("not", 1, (deed, ("cell", deed))), ("code", 1, ((0, wanted), (1, ("cell", wanted)))))
        deep, told = INT, INT
        for _ in range(100):
            deep, told = ("not", 0, (deep,)), ("code", 0, ((0, told),))
        self.kind(deep, told)

    def test_it_goes_along_with_others(self):
        for seed in range(300):
            rng = random.Random(seed)
            given = tuple(stored_kind(rng, 2, 0, 2) for _ in range(2))
            down = tuple(code_kind_of(kind) for kind in given)
            kind = stored_kind(rng, 2, 0)
            self.assertTrue(is_kind(2, code_kind_of(kind), CODE_WORDS))
            self.assertEqual(code_kind_of(filled(kind, given)), filled(code_kind_of(kind), down))
            self.assertEqual(code_kind_of(shut(kind, (1, 0))), shut(code_kind_of(kind), (1, 0)))
            some = ("some", stored_kind(rng, 2, 1))
            self.assertEqual(code_kind_of(opened(some, given[:1])), opened(code_kind_of(some), down[:1]))
            deed = ("not", 2, (stored_kind(rng, 2, 2), stored_kind(rng, 2, 2)))
            self.assertEqual(tuple(enumerate(code_kind_of(kind) for kind in opened(deed, given))), opened(code_kind_of(deed), down))
            self.assertEqual(code_kind_of(opened_first(deed, given[:1])), opened_first(code_kind_of(deed), down[:1]))
            rec = ("rec", ("one", (stored_kind(rng, 2, 1),)))
            self.assertEqual(code_kind_of(unfolded(rec)), unfolded(code_kind_of(rec)))
            other = stored_kind(rng, 2, 0)
            self.assertEqual(fits(code_kind_of(kind), code_kind_of(other)), fits(kind, other))


class CodedCase(Case):
    def code(self, program, registers, beats=(0, 1, 2, 3, 5, 9, 40)):
        self.assertIsNone(stored_judged(program))
        before = repr(program)
        told = coded(program, registers)
        self.assertEqual(coded(program=program, registers=registers), told)
        self.assertEqual(repr(program), before)
        self.assertIsNone(looked(told))
        self.assertEqual(told[0], registers)
        self.assertEqual(told[1][0][:2], (0, ()))
        for b, (n, ks, _) in enumerate(program[0]):
            self.assertEqual(("code",) + told[1][b + 1][:2], code_kind_of(("not", n, ks)))
        wide = width_of(program)
        self.assertLessEqual(sum(len(block[2]) + 1 for block in told[1]), (20 * wide + 40) * rows_and_ends(program))
        for k in beats:
            self.assertEqual(run(told, k), run_stored(program, k))
        return told

    def codes(self, program, *more):
        for registers in (8, 9, 10, 16, 32):
            self.code(program, registers, *more)


class Rows(CodedCase):
    def test_each_row(self):
        rec = ("rec", ("one", (INT, VAR)))
        rows = (("thing", ("int", 5)), ("thing", name(0)), ("sum", "times", name(0), ("int", 3)), ("cell", name(2)), ("get", name(3)), ("set", name(3), name(1)), ("get", name(3)), ("say", name(6)), ("room", (INT, UNIT)),
                ("put", name(8), 1, name(5)), ("put", name(9), 0, name(4)), ("part", name(10), 0), ("say", name(11)), ("thing", ("hide", INT, name(2), ("some", VAR))), ("open", name(13)), ("cell", name(14)),
                ("tagged", 0, ("one", (INT, rec)), name(0)), ("thing", ("fold", rec, name(16))), ("unfold", name(17)), ("part", name(10), 1))
        for end in (("halt", name(6)), ("match", name(18), (((), ("halt", name(20))), EMPTY)), ("match", name(18), (((("say", name(20)), ("get", name(15))), ("match", name(18), (((), ("halt", name(23))), EMPTY))), EMPTY)),
                    ("when", name(0), EMPTY, ((("say", name(2)),), ("when", ("int", 0), ((("set", name(3), name(2)), ("get", name(3))), ("halt", name(22))), EMPTY)))):
            self.codes(((), (rows, end)))

    def test_elder_names_of_rooms_keep_their_kinds(self):
        rows = (("room", (INT, INT)), ("put", name(0), 0, ("int", 4)), ("put", name(1), 1, ("int", 5)), ("put", name(0), 1, ("int", 6)), ("put", name(1), 0, ("int", 7)),
                ("part", name(2), 0), ("say", name(5)), ("part", name(2), 1), ("say", name(7)), ("part", name(1), 0), ("say", name(9)), ("put", name(0), 0, ("int", 8)), ("part", name(4), 0), ("halt", name(12)))
        told = self.code(((), (rows[:-1], rows[-1])), 8, (0,))
        self.assertEqual(run(told, 0), ("done", 8, (7, 6, 7)))
        # What is put in has the last name of all that is read: its register must not be taken by the new name ahead.
        for many in range(1, 6):
            rows = ints(many) + (("room", (INT, INT)), ("put", name(many), 0, name(many - 1)), ("put", name(many), 1, ("int", 9)), ("part", name(many + 1), 0), ("say", name(many + 3)), ("part", name(many + 2), 1))
            self.codes(((), (rows, ("halt", name(many + 5)))))

    def test_names_that_nothing_reads(self):
        rows = ints(3) + (("sum", "add", ONE, ONE), ("room", (INT,)), ("put", name(4), 0, ONE), ("put", name(4), 0, name(0)), ("say", ONE), ("cell", ONE), ("set", name(8), name(2)), ("get", name(8)), ("tagged", 0, BOTH, ONE))
        self.codes(((), (rows, HALT)))
        self.codes(((), (rows, ("match", name(11), (EMPTY, EMPTY)))))

    def test_empty_rooms_of_set_and_say(self):
        rows = (("say", ("int", 3)), ("cell", name(0)), ("say", ("int", 4)), ("set", name(1), name(2)), ("set", name(1), name(3)), ("room", (UNIT,)), ("put", name(5), 0, name(4)), ("part", name(6), 0), ("set", name(1), name(7)))
        block = (0, (UNIT, ("cell", UNIT)), ((("set", name(1), name(0)),), HALT))
        self.codes(((block,), (rows, ("jump", ("label", 0), (name(8), name(1))))))


class Ends(CodedCase):
    def test_jumps_that_swap(self):
        for many in range(1, 7):
            rng = random.Random(many)
            for _ in range(8):
                order = [rng.randrange(many) for _ in range(many)]
                body = (says(range(many)), ("jump", ("label", 0), tuple(name(k) for k in order)))
                program = (((0, (INT,) * many, body),), ((), ("jump", ("label", 0), tuple(("int", 10 + k) for k in range(many)))))
                for registers in (max(8, many + 3), 16, 32):
                    self.code(program, registers, range(8))

    def test_jumps_to_what_is_handed_in(self):
        # What is jumped to lies in a register that gets something else.
        kind = ("not", 0, (INT, INT, INT))
        block = (0, (kind, INT, INT), ((), ("jump", name(0), (name(2), name(1), name(2)))))
        last = (0, (INT, INT, INT), (says(range(3)), ("halt", name(1))))
        self.codes(((block, last), ((), ("jump", ("label", 0), (("label", 1), ("int", 7), ("int", 8))))))
        for many in range(1, 6):
            handed = ("not", 1, (VAR,) * many)
            inside = (1, (handed, VAR, VAR), ((), ("jump", ("at", name(0), (FREE,)), (name(1),) * many)))
            goal = (1, (VAR,) * many, (ints(2), ("halt", name(many + 1))))
            self.codes(((inside, goal), ((), ("jump", ("at", ("label", 0), (INT,)), (("label", 1), ("int", 3), ("int", 4))))), (0, 1, 2, 3))

    def test_things_that_fit(self):
        half, full = ("room", ((INT, True), (INT, False))), ("room", ((INT, True), (INT, True)))
        first = (0, (half, INT), ((("put", name(0), 1, name(1)), ("part", name(0), 0), ("say", name(3))), ("jump", ("label", 1), (name(2), name(0)))))
        second = (0, (full, half), ((("part", name(0), 1),), ("halt", name(2))))
        rows = (("room", (INT, INT)), ("put", name(0), 0, ("int", 4)), ("put", name(1), 1, ("int", 5)))
        self.codes(((first, second), (rows, ("jump", ("label", 0), (name(2), ("int", 6))))))

    def test_bodies_within_bodies(self):
        one = ("one", (INT, UNIT, INT))
        rows = (("cell", ("int", 3)), ("tagged", 2, one, ("int", 5)), ("thing", ("int", 0)))
        deep = ("match", name(1), (EMPTY, EMPTY, ((("say", name(4)), ("set", name(0), name(4))), ("when", name(2), ((("say", name(3)),), ("when", name(3), EMPTY, ((("get", name(0)),), ("halt", name(8))))), EMPTY))))
        self.codes(((), (rows, ("match", name(1), (EMPTY, EMPTY, ((), deep))))))
        self.codes((((0, (("cell", INT), one, INT), ((), ("match", name(1), (EMPTY, EMPTY, ((), deep))))),), (rows, ("jump", ("label", 0), (name(0), name(1), name(2))))))

    def test_others_come_behind(self):
        whens = ("when", ("int", 0), ((), ("when", ONE, EMPTY, ((("say", ONE),), HALT))), EMPTY)
        program = (((0, (INT,), ((), whens)), (0, (INT, UNIT), ((), whens))), ((), ("when", ("int", 0), ((), ("jump", ("label", 0), (ONE,))), EMPTY)))
        told = self.code(program, 8)
        self.assertEqual([block[:2] for block in told[1][:3]], [(0, ()), (0, ((0, INT),)), (0, ((0, INT), (1, UNIT)))])
        self.assertGreater(len(told[1]), 3)

    def test_hidden_kinds_in_bodies(self):
        # The kind variable that an open binds stands in the heads of blocks for bodies behind it.
        pack = ("some", ("room", ((VAR, True), (("not", 0, (VAR,)), True))))
        rows = (("room", (INT, ("not", 0, (INT,)))), ("put", name(0), 0, ("int", 5)), ("put", name(1), 1, ("label", 0)), ("open", ("hide", INT, name(2), pack)), ("part", name(3), 0), ("part", name(3), 1), ("cell", name(4)))
        jump = ("jump", name(5), (name(4),))
        inner = ((("set", name(6), name(4)), ("room", (FREE,)), ("put", name(8), 0, name(4)), ("open", ("hide", FREE, name(4), ("some", VAR)))), ("when", ("int", 0), ((("cell", name(10)), ("room", (FREE, ("free", 1))), ("put", name(12), 1, name(10))), jump), EMPTY))
        program = (((0, (INT,), ((("say", name(0)),), ("halt", name(0)))),), (rows, ("when", ("int", 0), inner, ((), jump))))
        self.codes(program)
        poly = (1, (VAR, ("not", 0, (VAR,))), ((("cell", name(0)),), ("when", ("int", 0), ((("get", name(2)), ("room", (FREE,))), ("jump", name(1), (name(3),))), EMPTY)))
        self.codes((program[0] + (poly,), ((), ("jump", ("at", ("label", 1), (INT,)), (("int", 6), ("label", 0))))))

    def test_very_many_kind_variables(self):
        # A block may have no more than 10,000; what stands in it has two more.
        opens = (("open", ("hide", INT, ONE, ("some", VAR))), ("cell", name(1)), ("open", ("hide", ("free", 10000), name(1), ("some", VAR))))
        # The kind variable 9998 stands in the rows of the body alone.
        inner = ((("set", name(2), name(1)), ("thing", ("hide", ("free", 9999), name(0), ("some", VAR))), ("open", name(5)), ("cell", name(6)), ("room", (("free", 10002), ("free", 10001))), ("put", name(8), 0, name(6)), ("room", (("cell", ("free", 9998)), INT))),
                 ("when", ("int", 0), ((("put", name(9), 1, name(3)), ("set", name(7), name(6))), ("halt", ("int", 7))), EMPTY))
        block = (10000, (("var", 9999),), (opens, ("when", ("int", 0), inner, EMPTY)))
        told = self.code(((block,), EMPTY), 8, (0,))
        self.assertLessEqual(max(block[0] for block in told[1]), 10000)
        alike = (3, (("var", 2),), self.lower(block[2]))
        given = tuple(UNIT for _ in range(2)) + (INT,)
        self.codes(((alike,), ((), ("jump", ("at", ("label", 0), given), (ONE,)))))

    def lower(self, value):
        if type(value) is tuple:
            if value[:1] == ("free",):
                return ("free", value[1] - 9997)
            return tuple(self.lower(part) for part in value)
        return value


class Others(CodedCase):
    def test_texts_from_source_to_code(self):
        for core, number, letters in cores():
            program = stored_of(closed_of(to_turns(core)))
            for registers in range(8, 33, 6):
                try:
                    told = self.code(program, registers, (0, 1, 4, 15))
                    self.assertEqual(run(told, 1000), ("done", number, letters))
                except TooMany:
                    self.assertEqual(registers, 8)
        self.assertGreater(len(TEXTS), 20)

    def test_by_chance(self):
        for seed in range(60):
            self.code(stored_of(closed_of(to_turns(CoreMaker(seed).program((8, 25, 60)[seed % 3])))), (9, 12, 32)[seed % 3], (0, 2, 30))

    def test_stored_by_chance(self):
        done = 0
        for seed in range(60):
            rng = random.Random(seed)
            program = StoredMaker(seed, (10, 20, 40)[seed % 3], seed % 3, (6, 12, 20)[seed % 3]).program()
            for value in [program] + [value for value in [changed(rng, program) for _ in range(4)] if stored_judged(value) is None]:
                told = self.code(value, (8, 9, 11, 32)[seed % 4], (0, 1, 3, 30))
                if seed % 10 == 0:
                    self.assertIsNone(code_fault(told))
                done += 1
        self.assertGreater(done, 70)

    def test_wide(self):
        for many in range(1, 40, 3):
            rng = random.Random(many)
            order = list(range(many))
            rng.shuffle(order)
            self.codes(((), (ints(many) + says(order), HALT)), (0,))

    def test_deep_bodies(self):
        begun = time.time()
        many = 1200
        body = (ints(12) + says(range(many, many + 12)), HALT)
        for k in reversed(range(many)):
            body = (ints(1, k), ("when", ("int", k % 2), body, ((), ("halt", name(k)))) if k % 2 == 0 else ("when", ("int", 1), ((), ("halt", name(k))), body))
        told = coded(((), body), 8)
        self.assertIsNone(looked(told))
        for beats in (0, 100, 2000):
            self.assertEqual(run(told, beats), run_stored(((), body), beats))
        self.assertLess(time.time() - begun, 10)

    def test_many_beats(self):
        begun = time.time()
        texts = [("fun f ( n ) = if n then f ( n - 1 ) else 7 in f ( 9000 )", 7), ("fun f ( n ) = if n then 1 + f ( n - 1 ) else 0 in f ( 4000 )", 4000),
                 (LIST + "fun up ( n , l ) = if n then up ( n - 1 , Cons ( n , l ) ) else l in fun sum ( l ) = match l { Nil -> 0 | Cons ( x , r ) -> x + sum ( r ) } in sum ( up ( 2500 , Nil ) )", 2500 * 2501 // 2)]
        for text, number in texts:
            program = stored_of(closed_of(to_turns(to_core(source_told(text)))))
            for registers in (8, 16):
                told = coded(program, registers)
                self.assertEqual(run(told, 20000), ("done", number, ()))
        self.assertLess(time.time() - begun, 10)


class Errors(Case):
    def test_sequence(self):
        right, ill = ((), EMPTY), ((), ((), ("halt", name(0))))
        for registers in (7, 33, 0, -1, True, None, "8", (8,), 10 ** 89):
            self.fails(InvalidCount, None, None, coded, right, registers)
            self.fails(IllKinded, "place", (1, 1, 1), coded, ill, registers)
        for value in STRANGE:
            self.fails(IllKinded, "place", stored_judged(value), coded, value, 8)
        for registers in (8, 32):
            self.assertEqual(run(coded(right, registers), 0), ("done", 1, ()))

    def test_too_many(self):
        for registers in (8, 9, 16, 31, 32):
            most = registers - 2
            wide = (ints(most + 1) + says(range(most + 1)), HALT)
            self.fails(TooMany, "count", most, coded, (((0, (INT,) * (most - 2), EMPTY),), wide), registers)
            self.assertIsNone(looked(coded((((0, (INT,) * (most - 3), EMPTY),), wide), registers)))
            self.assertIsNone(looked(coded((((0, (INT,) * most, EMPTY),), EMPTY), registers)))
            self.fails(TooMany, "count", most, coded, (((0, (INT,) * (most + 1), EMPTY),), EMPTY), registers)


if __name__ == "__main__":
    unittest.main()
