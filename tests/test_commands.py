import random
import unittest

from kindscarried.commands import command_text, command_told, outcome_text
from kindscarried.errors import InvalidCommand, InvalidPart
from tests.common import STRANGE, Case

RIGHT = [
    ("read a let x = 1 in x", ("read", "a", "let x = 1 in x")), ("read abcdefgh ", ("read", "abcdefgh", "")), ("read a  x ", ("read", "a", " x ")), ("read a \n;{~\t7", ("read", "a", "\n;{~\t7")),
    ("better a b", ("better", "a", "b")), ("size zzzzzzzz", ("size", "zzzzzzzz")), ("run sum 4 20", ("run", "sum", 4, 20)), ("run sum 0 999999", ("run", "sum", 0, 999999)), ("code a b 8", ("code", "a", "b", 8)),
    ("octets a", ("octets", "a")), ("load a 0", ("load", "a", (0,))), ("load a 1 0 255 999999", ("load", "a", (1, 0, 255, 999999))), ("drop a", ("drop", "a")), ("names", ("names",)), ("start names", ("start", "names")), ("on 0", ("on", 0)),
    ("on 100000", ("on", 100000)), ("back 10", ("back", 10)), ("here", ("here",)), ("said", ("said",)), ("show 31", ("show", 31)), ("thing 7", ("thing", 7)), ("known", ("known",)), ("clear", ("clear",)), ("forget", ("forget",)),
]
WORDS = ["read", "better", "size", "run", "code", "octets", "load", "drop", "names", "start", "on", "back", "here", "said", "show", "thing", "known", "clear", "forget"]
ALONE = ["names", "here", "said", "known", "clear", "forget"]


class Commands(Case):
    def wrong(self, command, index):
        self.fails(InvalidCommand, "index", index, command_told, command)

    def test_there_and_back(self):
        for command, pieces in RIGHT:
            self.assertEqual(command_told(command), pieces)
            self.assertEqual(command_told(command=command), pieces)
            self.assertEqual(command_text(pieces), command)
            self.assertEqual(command_text(pieces=pieces), command)
        self.assertEqual(sorted({pieces[0] for _, pieces in RIGHT}), sorted(WORDS))

    def test_examples(self):
        self.assertEqual([command_told("run sum 4 20"), command_text(("load", "a", (1, 0))), outcome_text(("done", -3, (7, 0)))], [("run", "sum", 4, 20), "load a 1 0", "done -3 said 7 0"])
        self.wrong("on 07", 4)

    def test_words_cut_short_and_others(self):
        for word in WORDS:
            for many in range(len(word)):
                self.wrong(word[:many], many)
                self.wrong(word[:many] + "?", many)
                self.wrong(word[:many] + " ", many)
            if word in ALONE:
                for more in (" ", "s", "  ", " a", " 1"):
                    self.wrong(word + more, len(word))
            else:
                self.wrong(word, len(word))
                self.wrong(word + " ", len(word) + 1)
                self.wrong(word + "  a", len(word) + 1)
                self.wrong(word + "s a", len(word))
        for command, index in [("", 0), (" names", 0), ("Names", 0), ("x", 0), ("rx", 1), ("sa", 2), ("sz", 1), ("sto", 2), ("cl", 2), ("clode", 2), ("beck", 2), ("bet", 3), ("7", 0), ("\u00e9", 0)]:
            self.wrong(command, index)

    def test_names(self):
        for command, index in [("size A", 5), ("size a1", 6), ("size abcdefghi", 13), ("size a ", 6), ("size a b", 6), ("size  a", 5), ("size 1", 5), ("size -", 5), ("better a", 8), ("better a ", 9), ("better a  b", 9), ("better abcdefghi b", 15), ("better a B", 9),
                               ("better a b ", 10), ("better a b c", 10), ("read abcdefghi x", 13), ("read a", 6), ("read ", 5), ("read 1 x", 5), ("read a1 x", 6), ("code a 8", 7), ("code a b", 8), ("code a b c", 9), ("size a\u00e9", 6)]:
            self.wrong(command, index)

    def test_numbers(self):
        for command, index in [("on 00", 4), ("on 01", 4), ("on 1234567", 9), ("on 1000000", 9), ("on -1", 3), ("on +1", 3), ("on 1 ", 4), ("on 1 2", 4), ("on a", 3), ("on 1a", 4), ("on  1", 3), ("on 1.5", 4), ("run a 4", 7), ("run a 4 ", 8), ("run a  4 5", 6), ("run a 4 05", 9), ("run a 05 4", 7),
                               ("run a 4 5 6", 9), ("run 4 5", 4), ("show", 4), ("show x", 5), ("thing 0 0", 7), ("back 00", 6), ("load a", 6), ("load a ", 7), ("load a 1 ", 9), ("load a 1  2", 9), ("load a 1,2", 8), ("load a 01", 8), ("load a 1 2 00", 12), ("load a 1 1234567", 15), ("load a x", 7), ("load 1 2", 5)]:
            self.wrong(command, index)

    def test_what_is_no_string(self):
        for value in (None, True, 5, (), ("names",), ["names"], 10 ** 89):
            self.wrong(value, 0)

    def test_text_of_any_signs(self):
        for text in ("", " ", "  ", "a b", "\n", "~" * 1000, "\u00e9\u4e00", "read a b", "0" * 30000):
            self.assertEqual(command_told("read x " + text), ("read", "x", text))
            self.assertEqual(command_text(("read", "x", text)), "read x " + text)

    def test_no_pieces(self):
        right = [pieces for _, pieces in RIGHT]
        for value in STRANGE:
            self.fails(InvalidPart, None, None, command_text, value)
        for pieces in right:
            for value in (list(pieces), pieces + ("a",), pieces + (1,), pieces[:-1] if len(pieces) > 1 else (), (pieces[0].upper(),) + pieces[1:], (pieces[0] + "s",) + pieces[1:], pieces[0], (None,) + pieces[1:], ((pieces[0],),) + pieces[1:]):
                self.fails(InvalidPart, None, None, command_text, value)
        for value in [("read", "a", None), ("read", "a", 5), ("read", "A", ""), ("read", "", "x"), ("read", None, "x"), ("size", "abcdefghi"), ("size", "a1"), ("size", "a b"), ("size", 5), ("size", ("a",)), ("size", True), ("on", -1), ("on", 1000000), ("on", True), ("on", "1"), ("on", None), ("on", (1,)),
                      ("on", 10 ** 89), ("run", "a", 1, None), ("run", "a", -1, 1), ("run", 1, "a", 1), ("load", "a", ()), ("load", "a", [1]), ("load", "a", 1), ("load", "a", (1, -1)), ("load", "a", (True,)), ("load", "a", ("1",)), ("load", "a", (1000000,)), ("load", "a", None), ("load", "a", 1, 2), ("code", "a", "b", "8")]:
            self.fails(InvalidPart, None, None, command_text, value)

    def test_outcomes(self):
        for outcome, text in [(("done", 0, ()), "done 0"), (("done", -2 ** 31, (1,)), "done -2147483648 said 1"), (("spent", ()), "spent"), (("spent", (0, -5, 7)), "spent said 0 -5 7"), (("done", 9, (0,)), "done 9 said 0")]:
            self.assertEqual(outcome_text(outcome), text)
            self.assertEqual(outcome_text(outcome=outcome), text)

    def test_by_chance(self):
        """A wrong sign is told at the first index up to which commands go on."""
        signs = "ab09 z\n"
        for seed in range(400):
            rng = random.Random(seed)
            command, _ = rng.choice(RIGHT)
            at = rng.randrange(len(command) + 1)
            command = command[:at] + rng.choice(signs) + command[at + rng.randrange(2):]
            try:
                pieces = command_told(command)
            except InvalidCommand as error:
                index = error.index
                self.assertTrue(self.goes_on(command[:index]), (command, index))
                self.assertFalse(index < len(command) and self.goes_on(command[:index + 1]), (command, index))
            else:
                self.assertEqual(command_text(pieces), command)

    def goes_on(self, command):
        """Whether some command begins so: tries what could stand behind."""
        for more in [""] + [word[k:] for word in WORDS for k in range(len(word) + 1)] + ["a", "1", " a", " 1", " a ", " a 1", " 1 1", " a a 1", " a 1 1", "a a", "a a 1", "a 1", "a 1 1", "1 1"]:
            for last in ("", " ", " a", " 1", " a 1", " a a", " a 1 1", " a a 1", " 1 1", " a "):
                try:
                    command_told(command + more + last)
                    return True
                except InvalidCommand:
                    pass
        return False


if __name__ == "__main__":
    unittest.main()
