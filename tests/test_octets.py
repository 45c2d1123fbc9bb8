import random
import unittest

from kindscarried.compiler import compiled_text
from kindscarried.errors import IllKinded, InvalidCount, InvalidOctets, InvalidPart
from kindscarried.looker import looked
from kindscarried.machine import run
from kindscarried.octets import code_told, octets_of, run_octets
from tests.changes import changed
from tests.common import STRANGE, Case, nested
from tests.naive_code import CodeMaker
from tests.programs import TEXTS

INT = ("int",)
VAR = ("var", 0)
ONE = ("int", 1)
HALT = ("halt", ONE)
UNIT = ("room", ())
TOP = 2 ** 35 - 1


def reg(r):
    return ("register", r)


def number(n):
    """The octets of a number, told plainly: groups of seven bits, the lesser ones first."""
    groups = [n % 128]
    while n >= 128:
        n //= 128
        groups.append(n % 128)
    return tuple([group + 128 for group in groups[:-1]] + groups[-1:])


def whole(*rows, end=HALT, registers=1):
    return (registers, ((0, (), rows, end),))


def row_octets(*octets):
    """The octets of code of one block with one row, and then halt of 1."""
    return (1, 1, 0, 0, 1) + octets + (2, 0, 2)


class Octets(Case):
    def there_and_back(self, code, octets=None):
        before = repr(code)
        told = octets_of(code)
        self.assertEqual(octets_of(code=code), told)
        self.assertIs(type(told), tuple)
        if octets is not None:
            self.assertEqual(told, octets)
        self.assertTrue(all(type(octet) is int and 0 <= octet < 256 for octet in told))
        self.assertEqual(code_told(told), code)
        self.assertEqual(repr(code_told(octets=told)), before)
        return told

    def wrong(self, octets, index):
        self.fails(InvalidOctets, "index", index, code_told, octets)
        self.fails(InvalidOctets, "index", index, run_octets, octets, -1)

    def test_example(self):
        self.there_and_back((6, ((0, (), (("room", 0, (("room", ((INT, True),)),)), ("say", ("int", -3))), ("halt", reg(1))),)), (6, 1, 0, 0, 2, 2, 0, 1, 3, 1, 1, 0, 10, 0, 5, 2, 1, 1))
        self.wrong((1, 1, 0, 0, 1, 12), 5)

    def test_words_rows_and_ends(self):
        for word, octets in [(("int", 0), (0, 0)), (("int", 1), (0, 2)), (("int", -1), (0, 1)), (reg(3), (1, 3)), (("label", 5), (2, 5)), (("at", reg(1), ()), (3, 1, 1, 0)), (("at", ("label", 2), (INT, VAR)), (3, 2, 2, 2, 0, 2, 0)),
                             (("hide", INT, reg(1), ("some", VAR)), (4, 0, 1, 1, 6, 2, 0)), (("fold", ("rec", ("cell", VAR)), reg(0)), (5, 7, 5, 2, 0, 1, 0)), (("unfold", ("unfold", reg(2))), (6, 6, 1, 2))]:
            self.there_and_back(whole(("say", word)), row_octets(10, *octets))
            self.there_and_back(whole(end=("jump", word)), (1, 1, 0, 0, 0, 0) + octets)
            self.there_and_back(whole(end=("halt", word)), (1, 1, 0, 0, 0, 2) + octets)
            self.there_and_back(whole(end=("pick", 7, (word, ONE))), (1, 1, 0, 0, 0, 1, 7, 2) + octets + (0, 2))
        for row, octets in [(("move", 4, ONE), (0, 4, 0, 2)), (("room", 4, (INT, INT)), (2, 4, 2, 0, 0)), (("load", 4, reg(5), 6), (3, 4, 1, 5, 6)), (("store", 4, 6, reg(5)), (4, 4, 6, 1, 5)), (("tagged", 4, 6, INT, reg(5)), (5, 4, 6, 0, 1, 5)),
                            (("cell", 4, ONE), (6, 4, 0, 2)), (("get", 4, ONE), (7, 4, 0, 2)), (("set", 4, ONE), (8, 4, 0, 2)), (("open", 4, ONE), (9, 4, 0, 2)), (("say", ONE), (10, 0, 2)), (("branch", ONE, reg(0)), (11, 0, 2, 1, 0))]:
            self.there_and_back(whole(row), row_octets(*octets))
        for index, word in enumerate(("add", "take", "times", "less", "same")):
            self.there_and_back(whole(("sum", word, 4, ONE, reg(2))), row_octets(1, index, 4, 0, 2, 1, 2))

    def test_kinds(self):
        for kind, octets in [(INT, (0,)), (("free", 3), (1, 3)), (("var", 3), (2, 3)), (UNIT, (3, 0)), (("room", ((INT, True), (VAR, False))), (3, 2, 1, 0, 0, 2, 0)), (("one", (INT, UNIT)), (4, 2, 0, 3, 0)), (("one", ()), (4, 0)), (("cell", INT), (5, 0)),
                             (("some", INT), (6, 0)), (("rec", VAR), (7, 2, 0)), (("code", 0, ()), (8, 0, 0)), (("code", 200, ((1, INT), (0, UNIT))), (8, 200, 1, 2, 1, 0, 0, 3, 0))]:
            self.there_and_back(whole(("room", 0, (kind,))), row_octets(2, 0, 1, *octets))
            self.there_and_back((1, ((0, ((3, kind),), (), HALT),)), (1, 1, 0, 1, 3) + octets + (0, 2, 0, 2))

    def test_numbers(self):
        for n in (0, 1, 127, 128, 129, 255, 300, 16383, 16384, 2 ** 21 - 1, 2 ** 21, 2 ** 28 - 1, 2 ** 28, 2 ** 31, TOP - 1, TOP):
            self.assertEqual(len(number(n)), max(1, (n.bit_length() + 6) // 7))
            self.there_and_back((n, ()), number(n) + (0,))
            self.there_and_back((n, ((n, ((n, ("free", n)),), (("load", n, ("label", n), n),), ("halt", ONE)),)), number(n) + (1,) + number(n) + (1,) + number(n) + (1,) + number(n) + (1, 3) + number(n) + (2,) + number(n) + number(n) + (2, 0, 2))
        for i in (0, 1, -1, 63, 64, -64, -65, 2 ** 31 - 1, -2 ** 31, -2 ** 31 + 1, 2 ** 20, -2 ** 27):
            self.there_and_back(whole(end=("halt", ("int", i))), (1, 1, 0, 0, 0, 2, 0) + number(2 * i if i >= 0 else -2 * i - 1))
        for many in (127, 128, 300):
            self.there_and_back(whole(*[("say", ONE)] * many), (1, 1, 0, 0) + number(many) + (10, 0, 2) * many + (2, 0, 2))
            self.there_and_back(whole(("room", 0, (INT,) * many)), row_octets(2, 0, *(number(many) + (0,) * many)))

    def test_wrong_numbers(self):
        # A needless last group, more than five groups, beyond the bound.
        for octets, index in [((128, 0), 1), ((255, 0), 1), ((128, 128, 128, 0), 3), ((128, 128, 128, 128, 0), 4), ((255, 255, 255, 255, 128), 4), ((255, 255, 255, 255, 255, 1), 4), ((128, 128), 2), ((128,) * 4, 4), ((128,) * 5, 4)]:
            self.wrong(octets, index)
        self.assertEqual(code_told((255, 255, 255, 255, 127, 0)), (TOP, ()))
        begin = (1, 1, 0, 0, 0, 2, 0)
        self.assertEqual(code_told(begin + (255, 255, 255, 255, 15)), whole(end=("halt", ("int", -2 ** 31))))
        self.assertEqual(code_told(begin + (254, 255, 255, 255, 15)), whole(end=("halt", ("int", 2 ** 31 - 1))))
        self.wrong(begin + (128, 128, 128, 128, 16), 11)
        self.wrong(begin + (255, 255, 255, 255, 127), 11)
        self.wrong(begin + (255, 255, 255, 255, 143), 11)
        # Numbers of members, too; octets that end too early.
        self.wrong((1, 255, 255, 255, 255, 127), 6)
        self.wrong((1, 5, 0, 0, 0, 2, 0, 2), 8)
        self.wrong((1, 128, 0), 2)

    def test_wrong_first_octets(self):
        self.wrong(row_octets(12, 0, 2), 5)
        self.wrong(row_octets(255), 5)
        self.wrong(row_octets(10, 7, 0), 6)
        self.wrong(row_octets(1, 5, 0, 0, 0, 0, 0), 6)
        self.wrong(row_octets(1, 128, 1), 6)
        self.wrong(row_octets(2, 0, 1, 9), 8)
        self.wrong(row_octets(2, 0, 1, 3, 1, 2, 0), 10)
        self.wrong(row_octets(2, 0, 1, 3, 1, 128, 0), 10)
        self.wrong((1, 1, 0, 0, 0, 3, 0, 2), 5)
        self.wrong((1, 1, 0, 1, 0, 9), 5)

    def test_no_octets(self):
        for value in (None, [], [1, 0], "x", 5, True, {}):
            self.wrong(value, 0)
        right = (6, 1, 0, 0, 2, 2, 0, 1, 3, 1, 1, 0, 10, 0, 5, 2, 1, 1)
        code = code_told(right)
        for index in range(len(right)):
            self.wrong(right[:index], index)
            for value in (-1, 256, True, False, None, "1", (1,), 10 ** 89):
                self.wrong(right[:index] + (value,) + right[index + 1:], index)
                self.wrong(right[:index] + (value,), index)
        self.wrong(right + (0,), len(right))
        self.wrong(right + (None, 5), len(right))
        self.assertEqual(octets_of(code), right)

    def test_deep_kinds_and_words(self):
        for outer, octet in (("cell", 5), ("some", 6), ("rec", 7)):
            right = nested(outer, 59, INT)
            self.there_and_back(whole(("room", 0, (right,))))
            self.there_and_back((1, ((0, ((0, right),), (), HALT),)))
            self.fails(InvalidPart, None, None, octets_of, whole(("room", 0, ((outer, right),))))
            self.wrong(row_octets(2, 0, 1, *([octet] * 60), 0), 8 + 60)
            # A wrong octet ahead, just there, behind.
            self.wrong(row_octets(2, 0, 1, *([octet] * 59), 9), 8 + 59)
            self.wrong(row_octets(2, 0, 1, *([octet] * 60), 9), 8 + 60)
            self.wrong(row_octets(2, 0, 1, *([octet] * 61), 9), 8 + 60)
            self.wrong(row_octets(2, 0, 1, *([octet] * 5), 200, *([octet] * 70)), 8 + 5)
            self.wrong((1, 1, 0, 0, 1, 2, 0, 1) + (octet,) * 60, 68)
        for inner in (reg(0), ONE, ("label", 7)):
            self.there_and_back(whole(("say", nested("unfold", 59, inner))))
            self.fails(InvalidPart, None, None, octets_of, whole(("say", nested("unfold", 60, inner))))
        self.wrong(row_octets(10, *([6] * 60), 0, 2), 6 + 60)
        # A kind in a word is counted on.
        for deep, right in ((58, True), (59, False)):
            for word in (("at", reg(0), (nested("cell", deep, INT),)), ("hide", nested("cell", deep, INT), reg(0), INT), ("hide", INT, reg(0), nested("cell", deep, INT)), ("fold", nested("cell", deep, INT), reg(0))):
                if right:
                    self.there_and_back(whole(("move", 0, word)))
                else:
                    self.fails(InvalidPart, None, None, octets_of, whole(("move", 0, word)))
        self.there_and_back(whole(("move", 0, nested("unfold", 30, ("fold", nested("cell", 28, INT), ONE)))))
        self.fails(InvalidPart, None, None, octets_of, whole(("move", 0, nested("unfold", 30, ("fold", nested("cell", 29, INT), ONE)))))
        self.wrong(row_octets(10, *([6] * 30), 5, *([5] * 29), 0, 0, 2), 6 + 60)
        # Outside of words they stand 1 deep.
        self.there_and_back(whole(("tagged", 0, 0, nested("cell", 59, INT), nested("unfold", 59, ONE))))
        code_kind = INT
        for _ in range(59):
            code_kind = ("code", 1, ((0, code_kind),))
        self.there_and_back((1, ((0, ((0, code_kind),), (), HALT),)))
        self.fails(InvalidPart, None, None, octets_of, (1, ((0, ((0, ("code", 0, ((0, code_kind),))),), (), HALT),)))
        # No great kind makes it fall.
        self.fails(InvalidPart, None, None, octets_of, whole(("room", 0, (nested("cell", 3000, INT),))))
        self.wrong(row_octets(2, 0, 1, *([5] * 3000)), 68)

    def test_shapes(self):
        # Whether or not there is such a register, label, place, variable.
        for code in [(0, ()), (TOP, ()), (1, ((TOP, ((TOP, ("var", TOP)), (0, ("free", TOP))), (("move", TOP, ("label", TOP)), ("store", 9, TOP, ONE), ("tagged", 0, TOP, INT, ONE)), ("pick", TOP, ())),)), (40, ((3, ((5, INT), (5, INT)), (), ("jump", ONE)),))]:
            self.there_and_back(code)
        for value in STRANGE + ((1, (), ()), (1,), [1, ()], (1, [()]), (1, ((0, (), ()),)), (1, ((0, (), (), HALT, ()),)), (1, ([0, (), (), HALT],))):
            self.fails(InvalidPart, None, None, octets_of, value)
        for n in (-1, TOP + 1, True, None, "1", 10 ** 89, (1,)):
            for code in [(n, ()), (1, ((n, (), (), HALT),)), (1, ((0, ((n, INT),), (), HALT),)), whole(("move", n, ONE)), whole(("say", reg(n))), whole(("say", ("label", n))), whole(("load", 0, ONE, n)), whole(("store", 0, n, ONE)),
                         whole(("tagged", 0, n, INT, ONE)), whole(("room", 0, (("free", n),))), whole(("room", 0, (("var", n),))), whole(("room", 0, (("code", n, ()),))), whole(("room", 0, (("code", 0, ((n, INT),)),))), whole(end=("pick", n, ()))]:
                self.fails(InvalidPart, None, None, octets_of, code)
        for i in (2 ** 31, -2 ** 31 - 1, True, None, "1"):
            self.fails(InvalidPart, None, None, octets_of, whole(("say", ("int", i))))
        for row in [None, (), ("moves", 0, ONE), ("move", 0), ("move", 0, ONE, ONE), ["move", 0, ONE], ("sum", "plus", 0, ONE, ONE), ("sum", None, 0, ONE, ONE), ("sum", ["add"], 0, ONE, ONE), ("room", 0, [INT]), ("room", 0, INT), ("room", 0, (None,)), ("room", 0, (("row", ()),)),
                    ("room", 0, (("not", 0, ()),)), ("room", 0, (("to", 0, (), INT),)), ("room", 0, (("room", ((INT, 1),)),)), ("room", 0, (("room", ((INT,),)),)), ("room", 0, (("room", ([INT, True],)),)), ("room", 0, (("room", (INT, True)),)), ("room", 0, (("int", 0),)), ("room", 0, (("one", [INT]),)),
                    ("room", 0, (("code", 0, ((0,),)),)), ("say", ("name", 0)), ("say", ("int",)), ("say", ("at", ONE)), ("say", ("at", ONE, INT)), ("say", None), ("say", ["int", 1]), ("halt", ONE), ("jump", ONE)]:
            self.fails(InvalidPart, None, None, octets_of, whole(row))
        for end in [None, (), ("say", ONE), ("jump",), ("halt", ONE, ONE), ("pick", 0, ONE), ("pick", 0, [ONE]), ("pick", 0, (None,)), ["halt", ONE], ("pick", 0)]:
            self.fails(InvalidPart, None, None, octets_of, whole(end=end))

    def test_by_chance(self):
        for seed in range(25):
            rng = random.Random(seed)
            code = CodeMaker(seed).made()
            octets = self.there_and_back(code)
            for _ in range(40):
                value = changed(rng, code)
                try:
                    told = octets_of(value)
                except InvalidPart:
                    self.assertIsNotNone(looked(value))
                    continue
                self.assertEqual(repr(code_told(told)), repr(value))
            for _ in range(60):
                at = rng.randrange(len(octets))
                other = octets[:at] + (rng.choice((0, 1, 2, 128, 255, rng.randrange(256))),) + octets[at + 1:]
                try:
                    told = code_told(other)
                    self.assertEqual(octets_of(told), other)
                except InvalidOctets as error:
                    self.assertLessEqual(error.index, len(other))
                    # Up to there they go on with what was there, or end too early.
                    self.assertGreaterEqual(error.index, at)
                    try:
                        code_told(other[:error.index])
                    except InvalidOctets as earlier:
                        self.assertEqual(earlier.index, error.index)


class Runs(Case):
    def test_outcomes(self):
        for text, wanted, letters in TEXTS[:14]:
            code = compiled_text(text, 12, False)
            octets = octets_of(code)
            self.assertEqual(code_told(octets), code)
            self.assertEqual(run_octets(octets, 1000), ("done", wanted, letters))
            self.assertEqual(run_octets(octets=octets, beats=2), run(code, 2))

    def test_refused_at_a_place(self):
        octets = octets_of(whole(("say", reg(0))))
        for beats in (-1, 5, None):
            self.fails(IllKinded, "place", (0, 0), run_octets, octets, beats)
        self.fails(IllKinded, "place", (), run_octets, octets_of((0, ())), 5)
        self.fails(IllKinded, "place", (0,), run_octets, octets_of((40 - 8, ())), 5)
        self.fails(IllKinded, "place", (0, 0), run_octets, octets_of(whole(("room", 0, (("one", ()),)))), 5)
        right = octets_of(whole())
        for beats in (-1, True, None, "1"):
            self.fails(InvalidCount, None, None, run_octets, right, beats)
            self.fails(InvalidOctets, "index", 3, run_octets, right[:3], beats)

    def test_whatever_octets_are_handed_in(self):
        ends = {}
        for seed in range(400):
            rng = random.Random(seed)
            octets = octets_of(CodeMaker(seed % 20).made())
            at = rng.randrange(len(octets))
            octets = octets[:at] + (rng.randrange(256) if seed % 2 else rng.randrange(8),) + octets[at + 1:]
            try:
                end = run_octets(octets, 20)[0]
            except (InvalidOctets, IllKinded) as error:
                end = type(error).__name__
            ends[end] = ends.get(end, 0) + 1
        self.assertEqual(sorted(ends), ["IllKinded", "InvalidOctets", "done", "spent"])


if __name__ == "__main__":
    unittest.main()
