import random
import time
import unittest

from kindscarried.errors import IllKinded
from kindscarried.kinds import opened, unfolded
from kindscarried.looker import after_row, check_end, looked
from tests.changes import changed
from tests.common import STRANGE, Case, nested
from tests.naive_code import BOTH, LIST, PACK, PAIR, CodeMaker, code_fault

INT = ("int",)
UNIT = ("room", ())
VAR = ("var", 0)
FREE = ("free", 0)
ONE = ("int", 1)
HALT = ("halt", ONE)
EMPTY = ((), HALT)
FULL = ("room", ((INT, True), (INT, True)))
BLANK = ("room", ((INT, False), (INT, False)))
CODE = ("code", 0, ((0, INT),))
# Registers: 0 an int, 1 a cell, 2 a pair, 3 a one, 4 a list, 5 a pack; nothing is known of 6 and 7.
REGS = ((0, INT), (1, ("cell", PAIR)), (2, PAIR), (3, BOTH), (4, LIST), (5, PACK))
# Blocks: 0, one of an int, of two kinds, of what 3 holds, of nothing, of a pair in 2.
HEADS = ((0, ()), (0, ((0, INT),)), (2, ((0, VAR), (1, ("cell", ("var", 1))))), (0, ((3, INT), (2, PAIR))[::-1]), (0, ()), (0, ((2, PAIR),)), (0, ((6, INT),)), (0, ((2, FULL),)))
BLOCKS = tuple(head + EMPTY for head in HEADS)
CODE_HERE = (8, BLOCKS)


def reg(k):
    return ("register", k)


def label(k):
    return ("label", k)


def with_reg(number, kind, regs=REGS):
    return tuple(sorted([row for row in regs if row[0] != number] + [(number, kind)]))


class LookerCase(Case):
    def gives(self, row, regs, free=0, new_free=None, ahead=REGS):
        """after_row; and in a block of code the row is right."""
        told = after_row(CODE_HERE, free, ahead, row)
        self.assertEqual(told, (free if new_free is None else new_free, regs))
        self.assertEqual(after_row(code=CODE_HERE, free=free, regs=ahead, row=row), told)

    def ill(self, row, free=0, ahead=REGS):
        with self.assertRaises(IllKinded) as caught:
            after_row(CODE_HERE, free, ahead, row)
        self.assertIs(type(caught.exception), IllKinded)

    def word(self, word, kind, free=0, ahead=REGS):
        """The kind of a word, None of a wrong one: in rows and in ends."""
        rows = [("move", 7, word), ("cell", 7, word)]
        others = [("sum", "add", 0, word, ONE), ("sum", "add", 0, ONE, word), ("load", 7, word, 0), ("store", 2, 0, word), ("tagged", 7, 0, BOTH, word), ("get", 7, word), ("set", 1, word),
                  ("open", 7, word), ("say", word), ("branch", word, label(0)), ("branch", ONE, word)]
        if kind is not None:
            self.gives(rows[0], with_reg(7, kind, ahead), free, None, ahead)
            self.gives(rows[1], with_reg(7, ("cell", kind), ahead), free, None, ahead)
            return
        for row in rows + others:
            self.ill(row, free, ahead)
        for end in (("jump", word), ("halt", word), ("pick", 3, (word, label(4))), ("pick", 3, (label(4), word))):
            self.wrong_end(end, free, ahead)

    def right_end(self, end, free=0, ahead=REGS):
        self.assertIsNone(check_end(CODE_HERE, free, ahead, end))
        self.assertIsNone(check_end(code=CODE_HERE, free=free, regs=ahead, end=end))

    def wrong_end(self, end, free=0, ahead=REGS):
        with self.assertRaises(IllKinded) as caught:
            check_end(CODE_HERE, free, ahead, end)
        self.assertIs(type(caught.exception), IllKinded)


class Words(LookerCase):
    def test_forms(self):
        for value in STRANGE:
            self.word(value, None)
        for word in (ONE, reg(0), label(1), ("at", label(1), ()), ("hide", INT, ONE, ("some", VAR)), ("fold", ("rec", UNIT), reg(6)), ("unfold", reg(4))):
            self.word(word[:-1], None)
            self.word(word + (ONE,), None)
            self.word(list(word), None)
            self.word((word[0] + "s",) + word[1:], None)
        for word in (("name", 0), ("row", ()), ("tag", 0, BOTH, ONE), ("int",)):
            self.word(word, None)

    def test_ints_registers_labels(self):
        for number in (0, 2 ** 31 - 1, -2 ** 31):
            self.word(("int", number), INT)
        for number in (2 ** 31, -2 ** 31 - 1, 2 ** 35, True, None, "1", (), 10 ** 89):
            self.word(("int", number), None)
        for number, kind in REGS:
            self.word(reg(number), kind)
        for number in (6, 7, 8, 31, 32, -1, 2 ** 35 - 1, 2 ** 35, 10 ** 89, True, False, None, "0", (), [0]):
            self.word(reg(number), None)
        for b, (n, regs) in enumerate(HEADS):
            self.word(label(b), ("code", n, regs))
        for number in (len(HEADS), -1, 2 ** 35 - 1, 2 ** 35, 10 ** 89, True, None, "0", (), [0]):
            self.word(label(number), None)

    def test_at(self):
        two = ("code", 2, ((0, VAR), (1, ("cell", ("var", 1)))))
        self.word(("at", label(2), ()), two)
        self.word(("at", label(2), (UNIT,)), ("code", 1, ((0, UNIT), (1, ("cell", VAR)))))
        self.word(("at", label(2), (UNIT, INT)), ("code", 0, ((0, UNIT), (1, ("cell", INT)))))
        self.word(("at", ("at", label(2), (FREE,)), (("free", 1),)), ("code", 0, ((0, FREE), (1, ("cell", ("free", 1))))), 2)
        for word in (("at", label(2), (INT,) * 3), ("at", label(1), (INT,)), ("at", ("at", label(2), (INT,)), (INT, INT)), ("at", reg(0), ()), ("at", reg(5), ()), ("at", ONE, ()), ("at", label(2), [INT]),
                     ("at", label(2), None), ("at", label(2), (FREE,)), ("at", label(2), (VAR,)), ("at", label(2), (("row", ()),)), ("at", label(2), (("not", 0, ()),)), ("at", label(2), (None,)), ("at", reg(6), ())):
            self.word(word, None)
        self.word(("at", label(2), (("free", 1),)), None, 1)

    def test_hide_fold_unfold(self):
        self.word(("hide", INT, reg(0), ("some", VAR)), ("some", VAR))
        pack = ("room", ((INT, True), (CODE, True)))
        ahead = with_reg(6, pack)
        self.word(("hide", INT, reg(6), PACK), PACK, 0, ahead)
        for word in (("hide", UNIT, reg(6), PACK), ("hide", INT, reg(0), PACK), ("hide", INT, reg(6), INT), ("hide", INT, reg(6), None), ("hide", None, reg(6), PACK), ("hide", FREE, reg(6), ("some", INT)), ("hide", INT, reg(7), PACK)):
            self.word(word, None, 0, ahead)
        # More may be set than is wanted, not less.
        self.word(("hide", INT, reg(6), ("some", ("room", ((VAR, True), (CODE, False))))), ("some", ("room", ((VAR, True), (CODE, False)))), 0, ahead)
        self.word(("hide", INT, reg(2), ("some", ("room", ((VAR, True), (INT, True))))), None)
        ahead = with_reg(6, unfolded(LIST))
        self.word(("fold", LIST, reg(6)), LIST, 0, ahead)
        self.word(("unfold", ("fold", LIST, reg(6))), unfolded(LIST), 0, ahead)
        self.word(("unfold", reg(4)), unfolded(LIST))
        for word in (("fold", LIST, reg(4)), ("fold", LIST, ONE), ("fold", BOTH, reg(6)), ("fold", None, reg(6)), ("fold", ("rec", VAR), reg(6)), ("unfold", reg(6)), ("unfold", reg(0)), ("unfold", ONE)):
            self.word(word, None, 0, ahead)

    def test_deep(self):
        """Kinds and words may stand deep in one another; what the octets bound is none of the looker's business."""
        for many in (59, 60, 61, 500):
            word = nested("at", many, label(2), ())
            self.word(word, ("code",) + HEADS[2])
            self.word(nested("at", many, ("label", 99), ()), None)
            kind = nested("cell", many, INT)
            self.gives(("room", 7, (kind,)), with_reg(7, ("room", ((kind, False),))))
            self.ill(("room", 7, (nested("cell", many, ("free", 0)),)))
        kind, other = nested("cell", 3000, INT), nested("cell", 3000, UNIT)
        ahead = with_reg(7, nested("cell", 1, nested("cell", 3000, INT)), with_reg(6, kind))
        self.assertEqual(after_row(CODE_HERE, 0, ahead, ("set", 7, reg(6)))[0], 0)
        self.ill(("set", 7, reg(6)), 0, with_reg(6, other, ahead))


class Rows(LookerCase):
    def test_forms(self):
        for value in STRANGE:
            self.ill(value)
        for row in (("move", 0, ONE), ("sum", "add", 0, ONE, ONE), ("room", 0, ()), ("load", 0, reg(2), 0), ("store", 2, 1, ONE), ("tagged", 0, 0, BOTH, ONE), ("cell", 0, ONE), ("get", 0, reg(1)), ("set", 1, reg(2)),
                    ("open", 0, reg(5)), ("say", ONE), ("branch", ONE, label(4))):
            self.assertEqual(len(after_row(CODE_HERE, 0, REGS, row)), 2)
            self.ill(row[:-1])
            self.ill(row + (ONE,))
            self.ill(list(row))
            self.ill((row[0] + "s",) + row[1:])
            for value in STRANGE:
                self.ill((value,) + row[1:])
        for row in (("jump", label(4)), ("halt", ONE), ("pick", 3, ()), ("put", 2, 0, ONE), ("thing", ONE)):
            self.ill(row)

    def test_registers_that_there_are(self):
        for number in (8, 31, -1, True, None, "0", 2 ** 35 - 1, 10 ** 89, (), [0]):
            for row in (("move", number, ONE), ("sum", "add", number, ONE, ONE), ("room", number, ()), ("load", number, reg(2), 0), ("store", number, 0, ONE), ("tagged", number, 0, BOTH, ONE), ("cell", number, ONE),
                        ("get", number, reg(1)), ("set", number, reg(2)), ("open", number, reg(5))):
                self.ill(row)
        self.gives(("move", 7, ONE), with_reg(7, INT))
        self.assertEqual(after_row((32, BLOCKS), 0, REGS, ("move", 31, ONE))[1][-1], (31, INT))

    def test_move_sum(self):
        self.gives(("move", 0, reg(5)), with_reg(0, PACK))
        self.gives(("move", 3, reg(3)), REGS)
        self.gives(("move", 6, label(2)), with_reg(6, ("code",) + HEADS[2]))
        for word in ("add", "take", "times", "less", "same"):
            self.gives(("sum", word, 5, reg(0), ONE), with_reg(5, INT))
        for row in (("sum", "add", 5, reg(1), ONE), ("sum", "add", 5, ONE, reg(1)), ("sum", "nothing", 5, ONE, ONE), ("sum", None, 5, ONE, ONE), ("sum", ["add"], 5, ONE, ONE)):
            self.ill(row)
        self.gives(("sum", "add", 0, reg(0), reg(0)), REGS)

    def test_rooms(self):
        self.gives(("room", 6, ()), with_reg(6, UNIT))
        self.gives(("room", 0, (INT, PACK)), with_reg(0, ("room", ((INT, False), (PACK, False)))))
        self.gives(("room", 6, (FREE,)), with_reg(6, ("room", ((FREE, False),))), 1)
        for kinds in ([INT], None, INT, (INT, None), (VAR,), (FREE,), (("row", ()),), (("not", 0, ()),), 5):
            self.ill(("room", 6, kinds))

    def test_load_store(self):
        self.gives(("load", 6, reg(2), 0), with_reg(6, INT))
        self.gives(("load", 2, reg(2), 0), with_reg(2, INT))
        for word, index in ((reg(2), 1), (reg(2), 2), (reg(2), -1), (reg(2), True), (reg(2), None), (reg(2), 2 ** 35), (reg(0), 0), (reg(6), 0), (reg(1), 0), (ONE, 0)):
            self.ill(("load", 6, word, index))
        self.gives(("store", 2, 1, ONE), with_reg(2, FULL))
        self.gives(("store", 2, 0, ONE), REGS)
        for number, index, word in ((2, 2, ONE), (2, -1, ONE), (2, False, ONE), (2, None, ONE), (2, 1, reg(1)), (2, 1, reg(6)), (0, 0, ONE), (6, 0, ONE), (3, 0, ONE)):
            self.ill(("store", number, index, word))
        # Other registers keep theirs, though they lead to the same room.
        ahead = with_reg(6, PAIR)
        self.gives(("store", 6, 1, ONE), with_reg(6, FULL), 0, None, ahead)
        self.gives(("store", 6, 0, reg(2)), with_reg(6, ("room", ((PAIR, True),))), 0, None, with_reg(6, ("room", ((PAIR, False),))))
        self.gives(("store", 6, 0, reg(7)), with_reg(6, ("room", ((PAIR, True),)), with_reg(7, FULL)), 0, None, with_reg(7, FULL, with_reg(6, ("room", ((PAIR, False),)))))
        self.ill(("store", 6, 0, reg(7)), 0, with_reg(7, BLANK, with_reg(6, ("room", ((PAIR, False),)))))
        # A word reads ahead of the writing.
        self.ill(("store", 2, 0, reg(2)))

    def test_tagged(self):
        self.gives(("tagged", 6, 0, BOTH, ONE), with_reg(6, BOTH))
        self.gives(("tagged", 0, 0, BOTH, reg(0)), with_reg(0, BOTH))
        one = ("one", (PAIR, FREE))
        self.gives(("tagged", 6, 0, one, reg(2)), with_reg(6, one), 1)
        self.gives(("tagged", 6, 0, one, reg(7)), with_reg(6, one, with_reg(7, FULL)), 1, None, with_reg(7, FULL))
        self.ill(("tagged", 6, 0, one, reg(7)), 1, with_reg(7, BLANK))
        for index, kind, word in ((0, BOTH, reg(1)), (1, BOTH, ONE), (2, BOTH, ONE), (-1, BOTH, ONE), (True, BOTH, ONE), (0, one, reg(2)), (0, PAIR, ONE), (0, None, ONE), (0, ("one", ()), ONE), (0, ("one", [INT]), ONE)):
            self.ill(("tagged", 6, index, kind, word))

    def test_cells(self):
        self.gives(("cell", 6, reg(3)), with_reg(6, ("cell", BOTH)))
        self.gives(("get", 6, reg(1)), with_reg(6, PAIR))
        self.gives(("get", 1, reg(1)), with_reg(1, PAIR))
        self.gives(("set", 1, reg(2)), REGS)
        self.gives(("set", 1, reg(7)), with_reg(7, FULL), 0, None, with_reg(7, FULL))
        self.ill(("set", 1, reg(7)), 0, with_reg(7, BLANK))
        for row in (("get", 6, reg(2)), ("get", 6, reg(6)), ("get", 6, ONE), ("set", 2, ONE), ("set", 6, ONE), ("set", 1, ONE), ("set", 1, reg(1)), ("set", 0, ONE)):
            self.ill(row)

    def test_open(self):
        for free in (0, 1, 7):
            self.gives(("open", 6, reg(5)), with_reg(6, opened(PACK, (("free", free),))), free, free + 1)
        self.gives(("open", 5, reg(5)), with_reg(5, opened(PACK, (FREE,))), 0, 1)
        for word in (reg(0), reg(4), reg(6), ONE):
            self.ill(("open", 6, word))

    def test_say_and_branch(self):
        self.gives(("say", reg(0)), REGS)
        self.ill(("say", reg(1)))
        for word in (label(0), label(1), label(4), label(5)):
            self.gives(("branch", reg(0), word), REGS)
        self.gives(("branch", ONE, ("at", label(2), (UNIT, PAIR))), with_reg(0, UNIT), 0, None, with_reg(0, UNIT))
        # Goals that want more kinds, another kind, more set, or more registers than are known.
        for word in (label(2), label(3), label(6), label(7), ("at", label(2), (INT,)), ("at", label(2), (INT, INT)), ONE, reg(0), reg(7), label(8)):
            self.ill(("branch", ONE, word))
        self.ill(("branch", reg(1), label(4)))
        self.gives(("branch", ONE, label(5)), with_reg(2, FULL), 0, None, with_reg(2, FULL))
        self.gives(("branch", ONE, label(7)), with_reg(2, FULL), 0, None, with_reg(2, FULL))
        self.ill(("branch", ONE, label(5)), 0, with_reg(2, BLANK))
        # A register may hold the goal.
        self.gives(("branch", ONE, reg(6)), with_reg(6, CODE), 0, None, with_reg(6, CODE))

    def test_arguments_stay(self):
        before = repr((CODE_HERE, REGS))
        after_row(CODE_HERE, 0, REGS, ("store", 2, 1, ONE))
        check_end(CODE_HERE, 0, with_reg(3, ("one", (INT,))), ("pick", 3, (label(3),)))
        self.assertEqual(repr((CODE_HERE, REGS)), before)


class Ends(LookerCase):
    def test_forms(self):
        for value in STRANGE:
            self.wrong_end(value)
        for end in (("jump", label(4)), ("halt", ONE), ("pick", 3, (label(4), label(4)))):
            self.right_end(end)
            self.wrong_end(end[:-1])
            self.wrong_end(end + (ONE,))
            self.wrong_end(list(end))
            self.wrong_end((end[0] + "s",) + end[1:])
        for row in (("say", ONE), ("branch", ONE, label(4)), ("move", 0, ONE), ("when", ONE, EMPTY, EMPTY)):
            self.wrong_end(row)

    def test_jump_and_halt(self):
        for word in (label(0), label(1), label(4), label(5)):
            self.right_end(("jump", word))
        for word in (label(2), label(3), label(6), label(7), ONE, reg(0), reg(7), label(8), ("at", label(2), (UNIT, PAIR))):
            self.wrong_end(("jump", word))
        self.right_end(("jump", ("at", label(2), (INT, PAIR))))
        self.right_end(("halt", reg(0)))
        for k in range(1, 8):
            self.wrong_end(("halt", reg(k)))

    def test_pick(self):
        # A goal may tell what the register holds when it has the kind of the index.
        three = with_reg(3, ("one", (INT, UNIT, PAIR)))
        self.right_end(("pick", 3, (label(3), label(4), label(5))), 0, three)
        self.wrong_end(("pick", 3, (label(4), label(3), label(5))), 0, three)
        self.wrong_end(("pick", 3, (label(4), label(4), label(3))), 0, three)
        self.right_end(("pick", 3, (label(4), label(4), label(4))), 0, three)
        for words in ((label(4),) * 2, (label(4),) * 4, (), [label(4)] * 3, None, label(4), (label(4), label(4), ONE), (label(4), label(4), label(6))):
            self.wrong_end(("pick", 3, words), 0, three)
        for number in (0, 1, 2, 4, 5, 6, 8, -1, True, None, 2 ** 35, "3", [3]):
            self.wrong_end(("pick", number, (label(4), label(4), label(4))), 0, three)
            self.wrong_end(("pick", number, (label(4), label(4))), 0, three)
        # The words are read behind what the register gets.
        codes = with_reg(3, ("one", (("code", 0, ()), ("code", 0, ((0, INT),)))))
        self.right_end(("pick", 3, (reg(3), reg(3))), 0, codes)
        self.wrong_end(("pick", 3, (reg(3), reg(3))), 0, with_reg(3, ("one", (("code", 0, ()), INT))))
        self.wrong_end(("pick", 3, (reg(3), reg(3))), 0, with_reg(3, ("one", (("code", 0, ()), ("code", 0, ((0, UNIT),))))))


class Looked(LookerCase):
    def looks(self, code, place):
        told = looked(code)
        self.assertEqual(told, place)
        self.assertEqual(looked(code=code), place)
        self.assertEqual(code_fault(code), place)
        if place is not None:
            self.assertIs(type(told), tuple)

    def test_whole(self):
        start = (0, ()) + EMPTY
        for registers in (1, 2, 31, 32):
            self.looks((registers, (start,)), None)
        for registers in (0, 33, -1, 2 ** 35, 10 ** 89, True, None, "8", (8,), [8]):
            self.looks((registers, (start,)), ())
        for value in STRANGE:
            self.assertEqual(looked(value), ())
            if type(value) is not tuple:
                self.looks((8, value), ())
                self.looks((8, (value,)), (0,))
        self.looks((8, ()), (0,))
        self.looks((8, [start]), ())
        self.looks([8, (start,)], ())
        self.looks((8, (start,), ()), ())
        self.looks((0, ()), ())

    def test_heads(self):
        start = (0, ()) + EMPTY
        for block in [None, (), 5, (0, ()), (0, (), ()), (0, (), (), HALT, ()), [0, (), (), HALT], (0, (), [], HALT), (0, (), None, HALT), (0, [], (), HALT), (0, None, (), HALT), (-1, (), (), HALT), (True, (), (), HALT),
                      (10001, (), (), HALT), (None, (), (), HALT), (0, ((0, VAR),), (), HALT), (1, ((0, ("var", 1)),), (), HALT), (1, ((0, FREE),), (), HALT), (0, ((1, INT), (0, INT)), (), HALT),
                      (0, ((0, INT), (0, INT)), (), HALT), (0, ((8, INT),), (), HALT), (0, ((0, INT), (2 ** 35, INT)), (), HALT), (0, ((-1, INT),), (), HALT), (0, ((True, INT),), (), HALT), (0, ((0, INT, INT),), (), HALT),
                      (0, ([0, INT],), (), HALT), (0, ((0, ("row", ())),), (), HALT), (0, ((0, ("not", 0, ())),), (), HALT), (0, ((0, None),), (), HALT), (2 ** 35, (), (), HALT), (0, (0, INT), (), HALT)]:
            self.looks((8, (start, start, block, None)), (2,))
            self.looks((8, (block, None)), (0,))
            # Heads ahead of rows.
            self.looks((8, ((0, (), (None,), HALT), block)), (1,))
        for block in [(0, ((0, INT), (7, UNIT)), (), HALT), (1, ((0, VAR),), (), HALT), (10000, ((3, ("var", 9999)),), (), HALT)]:
            self.looks((8, (start, block)), None)
            # Another head than 0, () is wrong for block 0 alone.
            self.looks((8, (block, start)), (0,))
        self.looks((3, (start, (0, ((3, INT),), (), HALT))), (1,))

    def test_rows_and_ends(self):
        say = ("say", ONE)
        self.looks((8, ((0, (), (say, say), HALT),)), None)
        self.looks((8, ((0, (), (say, ("say", reg(0))), HALT),)), (0, 1))
        self.looks((8, ((0, (), (say, ("say", reg(0)), ("say",)), None),)), (0, 1))
        self.looks((8, ((0, (), (say, say), ("halt", reg(0))),)), (0, 2))
        self.looks((8, ((0, (), (), ("halt", reg(0))),)), (0, 0))
        self.looks((8, ((0, (), (), HALT), (0, (), (say,), None), (0, (), (None,), HALT))), (1, 1))
        self.looks((8, ((0, (), (), HALT), (0, ((0, UNIT),), (say, ("say", reg(0))), HALT))), (1, 1))
        for value in STRANGE:
            self.looks((8, ((0, (), (say, value), HALT),)), (0, 1))
            self.looks((8, ((0, (), (say,), value),)), (0, 1))

    def test_what_is_known_at_the_beginning(self):
        poly = (2, ((0, VAR), (1, ("cell", ("var", 1))), (2, ("code", 1, ((0, ("var", 2)), (1, VAR))))))
        rows = (("get", 3, reg(1)), ("set", 1, reg(3)), ("move", 4, ("hide", FREE, reg(0), ("some", VAR))), ("open", 5, reg(4)), ("move", 6, ("hide", ("free", 2), reg(5), ("some", VAR))), ("move", 1, reg(0)))
        jump = ("jump", ("at", reg(2), (FREE,)))
        self.looks((8, ((0, ()) + EMPTY, poly + (rows, HALT))), None)
        self.looks((8, ((0, ()) + EMPTY, poly + (rows + (("move", 0, reg(3)),), jump))), None)
        self.looks((8, ((0, ()) + EMPTY, poly + (rows, jump))), (1, 6))
        self.looks((8, ((0, ()) + EMPTY, poly + (rows[:1] + (("move", 0, reg(3)),), jump))), (1, 2))
        free = (2, ((0, VAR), (1, VAR), (2, ("code", 1, ((0, ("var", 1)), (1, VAR))))))
        self.looks((8, ((0, ()) + EMPTY, free + ((), jump))), None)
        self.looks((8, ((0, ()) + EMPTY, poly + (rows[:4] + (("move", 6, ("hide", ("free", 2), reg(0), ("some", VAR))),), HALT))), (1, 4))
        self.looks((8, ((0, ()) + EMPTY, poly + ((("move", 6, ("hide", ("free", 2), reg(0), ("some", VAR))),), HALT))), (1, 0))
        self.looks((8, ((0, ()) + EMPTY, poly + ((("move", 4, ("hide", FREE, reg(3), ("some", VAR))),), HALT))), (1, 0))

    def test_numbers_just_within_and_beyond(self):
        for number in (2 ** 35 - 1, 2 ** 35):
            for row in (("move", 0, ("label", number)), ("move", 0, reg(number)), ("move", number, ONE), ("load", 0, ONE, number), ("store", 0, number, ONE), ("tagged", 0, number, BOTH, ONE), ("room", 0, (("free", number),)),
                        ("room", 0, (("some", ("var", number)),)), ("room", 0, (("code", number, ()),)), ("room", 0, (("code", 0, ((number, INT),)),))):
                right = row == ("room", 0, (("code", 0, ((number, INT),)),))
                self.looks((8, ((0, (), (row,), HALT),)), None if right else (0, 0))

    def test_deep_kinds_and_words(self):
        for many in (59, 60, 61, 120):
            kind, word = nested("cell", many, INT), nested("unfold", many, reg(0))
            self.looks((8, ((0, (), (("room", 0, (kind,)),), HALT), (0, ((0, kind),), (), HALT))), None)
            self.looks((8, ((0, (), (("move", 0, word),), HALT),)), (0, 0))
            self.looks((8, ((0, (), (("move", 0, nested("at", many, label(0), ())),), HALT),)), None)
            self.looks((8, ((0, (), (), HALT), (0, ((0, nested("cell", many, VAR)),), (), HALT))), (1,))

    def test_what_comes_by_chance(self):
        told = {}
        for seed in range(50):
            code = CodeMaker(seed).made()
            self.looks(code, None)
            rng = random.Random(seed)
            for _ in range(60):
                value = changed(rng, code)
                self.looks(value, code_fault(value))
                told[looked(value) is None] = told.get(looked(value) is None, 0) + 1
        self.assertGreater(min(told.values()), 200)

    def test_a_great_code(self):
        begun = time.time()
        rows = tuple(("sum", "add", k % 8, ONE, ONE) for k in range(6000))
        self.looks((8, ((0, (), rows, HALT),)), None)
        blocks = tuple((0, (), (("say", ONE),), ("jump", ("label", k))) for k in range(1, 3000)) + ((0, (), (), HALT),)
        self.looks((8, blocks), None)
        self.looks((8, blocks[:-1]), (2998, 1))
        self.assertLess(time.time() - begun, 10)


if __name__ == "__main__":
    unittest.main()
