import random
import unittest

from kindscarried.to_turns import to_turns
from kindscarried.turns import is_turns
from tests.changes import places_in, with_part, part_at
from tests.common import STRANGE, Case
from tests.programs import cores

ONE = ("int", 1)
HALT = ("halt", ONE)
EMPTY = ((), HALT)


def name(k):
    return ("name", k)


def start(*rows, end=HALT):
    return (0, (), (rows, end))


class Form(Case):
    def right(self, *functions):
        self.assertIs(is_turns(functions), True)
        self.assertIs(is_turns(value=functions), True)

    def wrong(self, *functions):
        self.assertIs(is_turns(functions), False)

    def row(self, row, truth):
        """Whether the row may stand, in the start, in a function, in a body of an end, ahead of other rows."""
        both = self.right if truth else self.wrong
        both(start(row))
        both(start(("say", ONE), row, ("say", ONE)))
        both(start(("fun", 1)), (3, (None,), ((row,), HALT)))
        both(start(end=("when", ONE, EMPTY, ((row,), HALT))))
        both(start(end=("match", ONE, (EMPTY, ((row,), HALT), EMPTY))))

    def end(self, end, truth):
        both = self.right if truth else self.wrong
        both(start(end=end))
        both(start(("say", ONE), end=("when", ONE, ((), end), EMPTY)))
        both(start(end=("match", ONE, (((), end),))))
        both(start(("fun", 1)), (0, (), ((), end)))

    def test_least_program(self):
        self.right(start())
        self.wrong()
        for value in STRANGE:
            self.assertIs(is_turns(value), False)
            self.wrong(value)
            self.wrong(start(), value)
            self.wrong((0, (), value))
            self.wrong((0, (), ((), value)))
            self.wrong((0, (), ((value,), HALT)))

    def test_lists_are_no_tuples(self):
        program = (start(("fun", 1), ("row", (ONE,)), end=("match", ONE, (EMPTY,))), (0, (), ((), ("jump", ONE, (), ()))))
        self.right(*program)
        for place in places_in(program):
            part = part_at(program, place)
            if isinstance(part, tuple):
                self.assertIs(is_turns(with_part(program, place, list(part))), False, place)
            elif type(part) is int:
                self.assertIs(is_turns(with_part(program, place, bool(part))), False, place)
                self.assertIs(is_turns(with_part(program, place, str(part))), False, place)
        self.assertIs(is_turns(list(program)), False)

    def test_functions(self):
        self.wrong((1, (), EMPTY))
        self.wrong((-1, (), EMPTY))
        self.wrong((0, (("int",),), EMPTY))
        self.wrong((0, (), EMPTY, ()))
        self.wrong((0, ()))
        self.wrong((0, (), (((), HALT, ()))))
        self.wrong((0, (), ((),)))
        made = start(("fun", 1))
        for n in (0, 1, 2, 10000, 10001, 10 ** 89):
            self.right(made, (n, (), EMPTY))
        for n in (-1, True, False, None, "0", ()):
            self.wrong(made, (n, (), EMPTY))
        # What stands in the place of a kind is not looked at here.
        for ks in ((), (("int",),), (None, 5, "x", [], ("free", -1))):
            self.right(made, (0, ks, EMPTY))
        for ks in ([], None, "int", 5):
            self.wrong(made, (0, ks, EMPTY))

    def test_things(self):
        for thing in [ONE, ("int", 2 ** 31 - 1), ("int", -2 ** 31), name(0), name(7), name(10 ** 80)]:
            self.row(("say", thing), True)
            self.end(("halt", thing), True)
        for thing in [("int", 2 ** 31), ("int", -2 ** 31 - 1), ("int", True), ("int", "1"), ("int",), ("int", 1, 1), name(-1), name(False), ("name",),
                      ("name", 0, 0), ("label", 0), ["int", 1], 1, None, (), ("row", ()), ("name", None)]:
            for row in [("say", thing), ("sum", "add", thing, ONE), ("sum", "add", ONE, thing), ("row", (thing,)), ("row", (ONE, thing)), ("part", thing, 0),
                        ("tag", 0, None, thing), ("cell", thing), ("get", thing), ("set", thing, ONE), ("set", ONE, thing), ("fold", None, thing),
                        ("unfold", thing), ("hide", None, thing, None), ("open", thing)]:
                self.row(row, False)
            for end in [("halt", thing), ("jump", thing, (), ()), ("jump", ONE, (), (thing,)), ("jump", ONE, (), (ONE, thing)), ("when", thing, EMPTY, EMPTY),
                        ("match", thing, ())]:
                self.end(end, False)

    def test_rows(self):
        kind = ("nothing", "of a kind")
        rows = [("sum", "add", ONE, name(9)), ("row", ()), ("row", (ONE, name(0))), ("part", name(0), 0), ("part", ONE, 10 ** 80), ("tag", 0, kind, ONE),
                ("cell", ONE), ("get", ONE), ("set", ONE, name(1)), ("fold", kind, ONE), ("unfold", ONE), ("hide", kind, ONE, kind), ("open", ONE), ("say", ONE)]
        for row in rows:
            self.row(row, True)
            self.row(row[:-1], False)
            self.row(row + (ONE,), False)
            self.row((row[0] + "s",) + row[1:], False)
            self.row((row[:1],) + row[1:], False)
            self.row(list(row), False)
        for word in ("add", "take", "times", "less", "same"):
            self.row(("sum", word, ONE, ONE), True)
        for word in ("sum", "", None, 0, ["add"], ("add",), "addition"):
            self.row(("sum", word, ONE, ONE), False)
        for index in (-1, True, None, "0", ()):
            self.row(("part", ONE, index), False)
            self.row(("tag", index, kind, ONE), False)
            self.row(("fun", index), False)
        for things in ([], None, ONE, (ONE, None), ([],)):
            self.row(("row", things), False)
        for row in [("jump", ONE, (), ()), ("halt", ONE), ("thing", ONE), ("when", ONE, EMPTY, EMPTY), ("put", ONE, 0, ONE)]:
            self.row(row, False)

    def test_kinds_may_be_anything_here(self):
        for kind in STRANGE:
            for row in [("tag", 0, kind, ONE), ("fold", kind, ONE), ("hide", kind, ONE, None), ("hide", None, ONE, kind)]:
                self.row(row, True)
            self.end(("jump", ONE, (kind, kind), ()), True)

    def test_ends(self):
        for end in [("jump", name(5), (), ()), ("jump", ONE, (None,), (ONE, ONE)), ("when", ONE, EMPTY, EMPTY), ("match", ONE, ()),
                    ("match", ONE, (EMPTY,) * 3), ("halt", name(3))]:
            self.end(end, True)
            self.end(end[:-1], False)
            self.end(end + ((),), False)
            self.end(list(end), False)
            self.end((end[0] + "s",) + end[1:], False)
        for value in STRANGE:
            self.end(("when", ONE, value, EMPTY), False)
            self.end(("when", ONE, EMPTY, value), False)
            self.end(("match", ONE, (EMPTY, value)), False)
            if value != ():
                self.end(("jump", ONE, (), value), False)
                self.end(("match", ONE, value), False)
            if type(value) is not tuple:
                self.end(("jump", ONE, value, ()), False)
            self.end(value, False)
        for row in [("say", ONE), ("open", ONE), ("row", ())]:
            self.end(row, False)

    def test_each_function_is_made_once(self):
        f = (0, (), EMPTY)
        self.right(start(("fun", 1)), f)
        self.right(start(("fun", 2), ("fun", 1)), f, f)
        self.right(start(("fun", 1)), (0, (), ((("fun", 2),), HALT)), f)
        self.right(start(end=("when", ONE, ((("fun", 2),), HALT), ((("fun", 1),), HALT))), f, f)
        self.right(start(("fun", 3), end=("match", ONE, (((("fun", 1),), HALT), EMPTY))), (0, (), ((), ("when", ONE, ((("fun", 2),), HALT), EMPTY))), f, f)
        # Never, twice, itself, by a later one, of none, the start.
        self.wrong(start(), f)
        self.wrong(start(("fun", 1)), f, f)
        self.wrong(start(("fun", 1), ("fun", 1)), f)
        self.wrong(start(("fun", 1), end=("when", ONE, ((("fun", 1),), HALT), EMPTY)), f)
        self.wrong(start(("fun", 1), ("fun", 2)), (0, (), ((("fun", 2),), HALT)), f)
        self.wrong(start(), (0, (), ((("fun", 1),), HALT)))
        self.wrong(start(("fun", 1)), f, (0, (), ((("fun", 2),), HALT)))
        self.wrong(start(("fun", 2)), f, (0, (), ((("fun", 1),), HALT)))
        self.wrong(start(("fun", 1)))
        self.wrong(start(("fun", 1), ("fun", 2)), f)
        self.wrong(start(("fun", 0)))
        self.wrong(start(("fun", 1)), (0, (), ((("fun", 0),), HALT)))
        self.wrong(start(("fun", 1), ("fun", 3), ("fun", 2)), f, f)

    def test_great_programs(self):
        many = 3000
        deep = EMPTY
        for _ in range(many):
            deep = ((), ("when", ONE, deep, EMPTY))
        self.right((0, (), deep))
        wrong = ((), ("halt",))
        for _ in range(many):
            wrong = ((), ("when", ONE, EMPTY, wrong))
        self.wrong((0, (), wrong))
        self.right(start(*[("fun", k + 1) for k in range(many)]), *[(0, (), EMPTY)] * many)
        self.right(start(("fun", 1)), *[(0, (), ((("fun", k + 2),), HALT)) for k in range(many)], (0, (), EMPTY))

    def test_what_to_turns_makes(self):
        rng = random.Random(5)
        for program, _, _ in cores():
            turns = to_turns(program)
            self.assertIs(is_turns(turns), True)
            self.assertIs(is_turns(turns + ((0, (), EMPTY),)), False)
            if len(turns) > 1:
                self.assertIs(is_turns(turns[:-1]), False)
            for place in rng.sample(places_in(turns), min(40, len(places_in(turns)))):
                self.assertIs(is_turns(with_part(turns, place[:2], None)), False)


if __name__ == "__main__":
    unittest.main()
