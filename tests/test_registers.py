import itertools
import random
import unittest

from kindscarried.registers import moved_at_once
from tests.common import Case

INT = ("int",)
SOME = ("some", ("var", 0))
REC = ("rec", ("one", (("var", 0),)))


def reg(r):
    return ("register", r)


def worth(registers, word):
    """What a word is worth; kinds are not looked at."""
    if word[0] == "register":
        return registers[word[1]]
    if word[0] in ("int", "label"):
        return word
    return worth(registers, word[2] if word[0] in ("hide", "fold") else word[1])


def around(rng, word, depth):
    """The word within others."""
    for _ in range(depth):
        word = rng.choice([("at", word, (INT,)), ("hide", INT, word, SOME), ("fold", REC, word), ("unfold", word)])
    return word


class Moves(Case):
    def moves(self, pending, spare, most=None):
        before = repr(pending)
        told = moved_at_once(pending, spare)
        self.assertIs(type(told), list)
        self.assertEqual(moved_at_once(pending=pending, spare=spare), told)
        self.assertEqual(repr(pending), before)
        self.assertLessEqual(len(told), 3 * len(pending) // 2 if most is None else most)
        registers = [("worth", r) for r in range(40)]
        wanted = list(registers)
        for r, word in pending:
            wanted[r] = worth(registers, word)
        allowed = {r for r, _ in pending} | {spare}
        for row in told:
            self.assertIs(type(row), tuple)
            word, r, source = row
            self.assertEqual(word, "move")
            self.assertIn(r, allowed)
            registers[r] = worth(registers, source)
        registers[spare] = wanted[spare]
        self.assertEqual(registers, wanted)
        return told

    def test_none_and_few(self):
        self.assertEqual(self.moves((), 0), [])
        self.moves(((0, ("int", 5)),), 1)
        self.moves(((3, ("label", 2)), (7, ("at", ("label", 0), ()))), 1)
        self.moves(((0, reg(1)),), 2, 1)
        self.moves(((0, reg(0)),), 1)
        self.moves(((0, ("hide", INT, reg(0), SOME)),), 1, 1)

    def test_words_within_others_stay(self):
        word = ("hide", INT, ("fold", REC, ("unfold", ("at", reg(4), (INT, INT)))), SOME)
        self.assertEqual(self.moves(((2, word),), 9), [("move", 2, word)])
        # In a ring, too, but for the register.
        told = self.moves(((2, word), (4, ("fold", REC, reg(2)))), 9)
        self.assertEqual(sorted(row[2][0] for row in told), ["fold", "hide", "register"])

    def test_rings(self):
        for many in range(2, 12):
            self.moves(tuple((k, reg((k + 1) % many)) for k in range(many)), 20, many + 1)
            self.moves(tuple((k, reg((k - 1) % many)) for k in range(many)), 20, many + 1)
        for pairs in range(1, 10):
            self.moves(tuple((k, reg(k ^ 1)) for k in range(2 * pairs)), 30, 3 * pairs)
        # Rings of unlike lengths, with moves to itself between.
        self.moves(((0, reg(2)), (1, reg(4)), (2, reg(6)), (3, reg(3)), (4, reg(1)), (5, ("unfold", reg(5))), (6, reg(0)), (9, reg(9))), 8)

    def test_chains(self):
        many = 10
        self.moves(tuple((k, reg(k + 1)) for k in range(many)), 20, many)
        self.moves(tuple((k + 1, reg(k)) for k in range(many)), 20, many)
        self.moves(((0, reg(8)), (1, reg(0)), (2, reg(1)), (3, reg(2)), (8, reg(5))), 4, 5)

    def test_one_register_that_several_read(self):
        self.moves(tuple((k, reg(9)) for k in range(8)), 20, 8)
        self.moves(tuple((k, reg(3)) for k in range(8)), 20, 8)
        # A ring from which chains go out.
        self.moves(((0, reg(1)), (1, reg(0)), (2, reg(0)), (3, reg(2)), (4, reg(1))), 5, 6)

    def test_spare_may_lie_anywhere(self):
        for spare in (0, 2, 4, 6):
            self.moves(((1, reg(3)), (3, reg(5)), (5, reg(1))), spare, 4)

    def test_all_of_four_registers(self):
        for sources in itertools.product(range(5), repeat=4):
            self.moves(tuple((k, reg(source)) for k, source in enumerate(sources)), 7)

    def test_by_chance(self):
        for seed in range(600):
            rng = random.Random(seed)
            targets = sorted(rng.sample(range(31), rng.randrange(12)))
            spare = rng.choice([r for r in range(32) if r not in targets])
            sources = [r for r in range(32) if r != spare]
            if rng.random() < 0.6 and targets:
                sources = targets
            pending = []
            for r in targets:
                leaf = rng.choice([reg(rng.choice(sources))] * 6 + [("int", seed), ("label", 3)])
                pending.append((r, around(rng, leaf, rng.randrange(4))))
            self.moves(tuple(pending), spare)
            rng.shuffle(sources)
            self.moves(tuple((r, around(rng, reg(source), rng.randrange(2))) for r, source in zip(targets, sources)), spare)

    def test_deep_words(self):
        rng = random.Random(1)
        self.moves(((0, around(rng, reg(1), 150)), (1, around(rng, reg(0), 150))), 2)


if __name__ == "__main__":
    unittest.main()
