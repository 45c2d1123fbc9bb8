import random
import unittest

from kindscarried.closed import closed_judged
from kindscarried.closing import closed_of
from kindscarried.kinds import unfolded
from kindscarried.to_turns import to_turns
from tests.changes import changed
from tests.common import STRANGE, Case
from tests.naive_lookers import closed_fault
from tests.programs import cores
from tests.random_core import CoreMaker

INT = ("int",)
VAR = ("var", 0)
FREE = ("free", 0)
ONE = ("int", 1)
HALT = ("halt", ONE)
EMPTY = ((), HALT)
UNIT = ("row", ())
PAIR = ("row", (INT, ("cell", INT)))
BOTH = ("one", (INT, PAIR))
LIST = ("rec", ("one", (UNIT, ("row", (INT, VAR)))))
PACK = ("some", ("row", (VAR, ("not", 0, (VAR,)))))
NIL = ("fold", LIST, ("tag", 0, unfolded(LIST), UNIT))
# Blocks: handed an int; of two kinds, handed things of both; handed nothing.
BLOCKS = ((0, (INT,), EMPTY), (2, (VAR, ("cell", ("var", 1))), EMPTY), (0, (), EMPTY))
PACKED = ("hide", INT, ("row", (ONE, ("label", 0))), PACK)
# Names: 0 an int, 1 a cell, 2 a pair, 3 a one, 4 a list, 5 a pack, 6 a block, 7 a block of kinds, 8 the empty row.
AHEAD = (("sum", "add", ONE, ONE), ("cell", ONE), ("thing", ("row", (ONE, ("name", 1)))), ("thing", ("tag", 1, BOTH, ("name", 2))), ("thing", NIL), ("thing", PACKED),
         ("thing", ("label", 0)), ("thing", ("label", 1)), ("set", ("name", 1), ONE))
N = len(AHEAD)
BAD = ("name", 99)


def name(k):
    return ("name", k)


class Rules(Case):
    def right(self, value):
        self.assertIsNone(closed_judged(value))
        self.assertIsNone(closed_judged(value=value))

    def ill(self, place, value):
        told = closed_judged(value)
        self.assertEqual(told, place)
        self.assertIs(type(told), tuple)

    def around(self, rows, end):
        """The (place of a body, program) in whose body stand, behind AHEAD, these rows and this end."""
        body = (rows, end)
        whole = (AHEAD + rows, end)
        return [((1,), (BLOCKS, whole), N), ((0, 3, 2), (BLOCKS + ((0, (), whole),), EMPTY), N),
                ((1, 1, 2), (BLOCKS, (AHEAD, ("when", ONE, body, EMPTY))), 0), ((1, 1, 3), (BLOCKS, (AHEAD, ("when", ONE, EMPTY, body))), 0),
                ((0, 3, 2, 1, 2, 0), (BLOCKS + ((0, (), (AHEAD, ("match", name(3), (body, EMPTY)))),), EMPTY), 0)]

    def row(self, row, place=None):
        """Whether the row may stand behind AHEAD; place is that of the fault in it."""
        for where, program, ahead in self.around((row,), HALT):
            if place is None:
                self.right(program)
            else:
                self.ill(where + (0, ahead) + place, program)

    def end(self, end, place=None):
        for where, program, _ in self.around((), end):
            if place is None:
                self.right(program)
            else:
                self.ill(where + (1,) + place, program)

    def thing(self, thing, place=None):
        """Whether the thing may stand in a row, in another thing, in ends."""
        self.row(("thing", thing), None if place is None else (1,) + place)
        self.row(("thing", ("row", (ONE, thing))), None if place is None else (1, 1, 1) + place)
        self.row(("cell", thing), None if place is None else (1,) + place)
        if place is not None:
            for at, row in [(2, ("sum", "add", thing, BAD)), (3, ("sum", "add", ONE, thing)), (1, ("part", thing, -1)), (1, ("get", thing)), (1, ("set", thing, BAD)),
                            (2, ("set", ONE, thing)), (1, ("unfold", thing)), (1, ("open", thing)), (1, ("say", thing)), (1, ("thing", thing))]:
                self.row(row, (at,) + place)
            for at, inner in [((1,), ("at", thing, None)), ((3,), ("tag", 0, None, thing)), ((2,), ("hide", None, thing, None)), ((2,), ("fold", None, thing))]:
                self.row(("thing", inner), (1,) + at + place)
            for at, end in [((1,), ("jump", thing, (BAD,))), ((2, 1), ("jump", ONE, (ONE, thing))), ((1,), ("when", thing, None, None)), ((1,), ("match", thing, None)), ((1,), ("halt", thing))]:
                self.end(end, at + place)

    def test_whole_programs(self):
        self.right(((), EMPTY))
        self.right((BLOCKS, EMPTY))
        for value in STRANGE:
            if not (type(value) is tuple and len(value) == 2 and type(value[0]) is tuple):
                self.ill((), value)
            if type(value) is not tuple:
                self.ill((), (value, EMPTY))
            if not (type(value) is tuple and len(value) == 3):
                self.ill((0, 0), ((value,), None))
            if not (type(value) is tuple and len(value) == 2 and type(value[0]) is tuple):
                self.ill((1,), ((), value))
        self.ill((), ((), EMPTY, ()))
        self.ill((), ([], EMPTY))
        self.ill((), [(), EMPTY])
        self.ill((), ((),))

    def test_heads(self):
        for block in (None, (), (0, ()), (0, (), EMPTY, ()), [0, (), EMPTY], 5, "block"):
            self.ill((0, 1), (((0, (), None), block, (None, None, None)), None))
        for n in (-1, 10001, True, None, "0", 10 ** 89, ()):
            self.ill((0, 1, 0), (((0, (), None), (n, None, None)), None))
        for ks in (None, [], 0, "int", [INT]):
            self.ill((0, 0, 1), (((0, ks, None),), None))
        for n, kind in [(0, None), (0, VAR), (1, ("var", 1)), (2, FREE), (0, ("room", ())), (0, ("to", 0, (), INT)), (0, []), (0, ("not", 0, [])), (5, ("var", 5))]:
            self.ill((0, 1, 1, 0), (((0, (), None), (n, (kind, None), None)), None))
            self.ill((0, 0, 1, 2), (((n, (INT, UNIT, kind, None), None), None), None))
        for n, kind in [(1, VAR), (10000, ("var", 9999)), (0, PACK), (2, ("some", ("row", (VAR, ("var", 2))))), (1, ("not", 1, (VAR, ("var", 1))))]:
            self.right((((n, (INT, kind), EMPTY),), EMPTY))
        # All heads come ahead of all bodies.
        self.ill((0, 1, 0), (((0, (), None), (-1, (), None)), None))
        self.ill((0, 0, 2), (((0, (), None), (0, (), None)), None))
        self.ill((0, 1, 2), (((0, (), EMPTY), (0, (), None)), None))

    def test_bodies(self):
        for body in (None, (), ((),), ((), HALT, ()), ([], HALT), [(), HALT], 5, (None, HALT), ((HALT,))):
            self.ill((1,), (BLOCKS, body))
            self.ill((0, 0, 2), (((0, (), body),), None))
            self.ill((1, 1, 2), (BLOCKS, ((), ("when", ONE, body, None))))
            self.ill((1, 1, 3), (BLOCKS, ((), ("when", ONE, EMPTY, body))))
            self.ill((1, 1, 2, 1), (BLOCKS, (AHEAD, ("match", name(3), (EMPTY, body)))))
        # The bodies in an end come behind its rule.
        self.ill((1, 1), (BLOCKS, ((), ("when", UNIT, None, None))))
        self.ill((1, 1), (BLOCKS, (AHEAD, ("match", name(3), (None,)))))
        self.ill((1, 1, 2), (BLOCKS, ((), ("when", ONE, None, None))))

    def test_words_and_members(self):
        for row in [("thing", ONE), ("sum", "add", ONE, ONE), ("part", name(2), 0), ("cell", ONE), ("get", name(1)), ("set", name(1), ONE), ("unfold", name(4)), ("open", name(5)), ("say", ONE)]:
            self.row(row)
            self.row(row[:-1], ())
            self.row(row + (ONE,), ())
            self.row(list(row), ())
            self.row((row[0] + "s",) + row[1:], ())
            self.row((None,) + row[1:], ())
        for row in [("row", ()), ("tag", 0, BOTH, ONE), ("fold", LIST, ONE), ("hide", INT, ONE, PACK), ("fun", 1), ("halt", ONE), ("room", ()), ("put", ONE, 0, ONE), ("name", 0), ("int", 1)]:
            self.row(row, ())
        for thing in [ONE, name(0), ("label", 0), ("at", ("label", 0), ()), UNIT, ("tag", 0, BOTH, ONE), PACKED, NIL]:
            self.thing(thing)
            self.thing(thing[:-1], ())
            self.thing(thing + (ONE,), ())
            self.thing(list(thing), ())
            self.thing((thing[0] + "s",) + thing[1:], ())
        for thing in [("thing", ONE), ("cell", ONE), ("jump", ONE, ()), ("sum", "add", ONE, ONE), ("free", 0), ("var", 0)]:
            self.thing(thing, ())
        for end in [("jump", name(6), (ONE,)), ("when", ONE, EMPTY, EMPTY), ("match", name(3), (EMPTY, EMPTY)), ("halt", ONE)]:
            self.end(end)
            self.end(end[:-1], ())
            self.end(end + (ONE,), ())
            self.end(list(end), ())
            self.end((end[0] + "s",) + end[1:], ())
        for value in STRANGE:
            self.row(value, ())
            self.end(value, ())
            self.row(("thing", value), (1,))
            self.row(("sum", value, ONE, ONE), ())
            self.end(("halt", value), (1,))

    def test_things_first_then_the_rule(self):
        self.row(("sum", "nothing", BAD, ("name",)), (2,))
        self.row(("sum", "nothing", ONE, ("name",)), (3,))
        self.row(("sum", "nothing", ONE, ONE), ())
        self.row(("sum", "add", name(1), ONE), ())
        self.row(("part", BAD, None), (1,))
        self.row(("thing", ("tag", None, None, ("row", (BAD,)))), (1, 3, 1, 0))
        self.row(("thing", ("row", (("row", (ONE, ("row", (BAD, ("int",))))), ("int",)))), (1, 1, 0, 1, 1, 1, 0))
        self.row(("thing", ("row", [BAD])), (1,))
        self.row(("thing", ("row", None)), (1,))
        self.end(("jump", name(6), [BAD]), ())
        self.end(("jump", BAD, [BAD]), (1,))
        self.end(("jump", ONE, (BAD,)), (2, 0))
        self.end(("match", name(3), [EMPTY, EMPTY]), ())

    def test_ints_names_labels(self):
        for number in (0, 2 ** 31 - 1, -2 ** 31):
            self.thing(("int", number))
        for number in (2 ** 31, -2 ** 31 - 1, True, None, "1", (), 10 ** 89):
            self.thing(("int", number), ())
        for k in range(N):
            self.thing(name(k))
        for k in (N + 3, -1, True, None, "0", 10 ** 89, ()):
            self.thing(name(k), ())
        for b in range(len(BLOCKS)):
            self.thing(("label", b))
        for b in (len(BLOCKS) + 1, -1, False, None, "0", 10 ** 89, ()):
            self.thing(("label", b), ())
        self.row(("say", ONE))
        self.row(("say", ("label", 0)), ())

    def test_names_of_rows(self):
        """Each row binds a name, a set and say one of the empty row."""
        self.right(((), ((("say", ONE), ("cell", ONE), ("set", name(1), ONE), ("cell", name(2)), ("set", name(3), name(0)), ("get", name(1))), ("halt", name(5)))))
        self.right(((), ((("say", ONE), ("cell", UNIT), ("set", name(1), name(0)), ("set", name(1), name(2))), HALT)))
        self.ill((1, 1, 1), ((), ((("say", ONE),), ("halt", name(1)))))
        self.ill((1, 1), ((), ((("say", ONE),), ("halt", name(0)))))

    def test_at(self):
        for thing in [("at", ("label", 0), ()), ("at", ("label", 1), ()), ("at", ("label", 1), (INT,)), ("at", ("label", 1), (INT, UNIT)), ("at", ("at", ("label", 1), (INT,)), (UNIT,)), ("at", name(7), (PACK,))]:
            self.thing(thing)
        for thing in [("at", ("label", 0), (INT,)), ("at", ("label", 1), (INT,) * 3), ("at", ("at", ("label", 1), (INT,)), (INT, INT)), ("at", ONE, ()), ("at", name(5), ()),
                      ("at", ("label", 1), [INT]), ("at", ("label", 1), None), ("at", ("label", 1), (VAR,)), ("at", ("label", 1), (FREE,)), ("at", ("label", 1), (None,)), ("at", ("label", 1), (("room", ()),))]:
            self.thing(thing, ())
        # The first variables are given, the others stay.
        self.end(("jump", ("at", ("label", 1), (INT, UNIT)), (ONE, ("name", 1))), ())
        self.right((BLOCKS, ((("cell", UNIT),), ("jump", ("at", ("label", 1), (INT, UNIT)), (ONE, name(0))))))
        self.right((BLOCKS, ((("cell", UNIT),), ("jump", ("at", ("at", ("label", 1), (INT,)), (UNIT,)), (ONE, name(0))))))
        self.ill((1, 1), (BLOCKS, ((("cell", UNIT),), ("jump", ("at", ("at", ("label", 1), (UNIT,)), (INT,)), (ONE, name(0))))))
        self.ill((1, 1), (BLOCKS, ((("cell", UNIT),), ("jump", ("at", ("label", 1), (INT,)), (ONE, name(0))))))

    def test_tags_folds_hides(self):
        self.thing(("tag", 0, BOTH, name(0)))
        self.thing(("tag", 1, BOTH, name(2)))
        for thing in [("tag", 0, BOTH, name(2)), ("tag", 1, BOTH, ONE), ("tag", 2, BOTH, ONE), ("tag", -1, BOTH, ONE), ("tag", True, BOTH, name(2)), ("tag", 0, PAIR, ONE), ("tag", 0, None, ONE),
                      ("tag", 0, ("one", (INT, FREE)), ONE), ("tag", 0, ("one", (INT, ("room", ()))), ONE)]:
            self.thing(thing, ())
        self.thing(NIL)
        for thing in [("fold", LIST, ONE), ("fold", LIST, name(4)), ("fold", BOTH, NIL), ("fold", None, ONE), ("fold", ("rec", VAR), ONE), ("fold", ("cell", INT), ONE)]:
            self.thing(thing, ())
        self.thing(("hide", PAIR, name(2), ("some", VAR)))
        for thing in [("hide", UNIT, ("row", (ONE, ("label", 0))), PACK), ("hide", INT, ONE, PACK), ("hide", INT, ONE, INT), ("hide", FREE, ONE, ("some", VAR)), ("hide", INT, ONE, None), ("hide", None, ONE, ("some", VAR))]:
            self.thing(thing, ())

    def test_rows(self):
        for k in range(N):
            self.row(("part", name(k), 0), None if k == 2 else ())
            self.row(("get", name(k)), None if k == 1 else ())
            self.row(("unfold", name(k)), None if k == 4 else ())
            self.row(("open", name(k)), None if k == 5 else ())
            self.row(("say", name(k)), None if k == 0 else ())
            self.row(("sum", "less", ONE, name(k)), None if k == 0 else ())
            self.row(("sum", "same", name(k), ONE), None if k == 0 else ())
            self.row(("set", name(1), name(k)), None if k == 0 else ())
            self.row(("set", name(k), ONE), None if k == 1 else ())
        for index in (2, -1, True, None, "0", 10 ** 60):
            self.row(("part", name(2), index), ())
        for word in ("add", "take", "times", "less", "same"):
            self.row(("sum", word, ONE, ONE))
        self.right((BLOCKS, (AHEAD + (("part", name(2), 1), ("set", name(N), ONE), ("part", name(2), 0)), ("halt", name(N + 2)))))

    def test_opens(self):
        """The next kind variable stands from now on, unlike that of another one that is opened."""
        parts = (("open", name(5)), ("part", name(N), 0), ("part", name(N), 1))
        self.right((BLOCKS, (AHEAD + parts, ("jump", name(N + 2), (name(N + 1),)))))
        self.ill((1, 1), (BLOCKS, (AHEAD + parts, ("jump", name(N + 2), (ONE,)))))
        self.ill((1, 1), (BLOCKS, (AHEAD + parts + (("open", name(5)), ("part", name(N + 3), 0)), ("jump", name(N + 2), (name(N + 4),)))))
        hide = ("thing", ("hide", FREE, name(N + 1), ("some", VAR)))
        self.right((BLOCKS, (AHEAD + parts + (hide,), HALT)))
        self.ill((1, 0, N, 1), (BLOCKS, (AHEAD + (("thing", ("hide", FREE, ONE, ("some", VAR))),), HALT)))
        self.ill((1, 1, 2, 0, 0, 1), (BLOCKS, (AHEAD, ("when", ONE, ((("thing", ("hide", FREE, ONE, ("some", VAR))),), HALT), EMPTY))))
        self.right((BLOCKS, (AHEAD + parts, ("when", ONE, ((hide,), HALT), ((hide, hide), HALT)))))
        # What is opened in one body is not in the other one.
        self.ill((1, 1, 3, 0, 0, 1), (BLOCKS, (AHEAD, ("when", ONE, (parts + (hide,), HALT), ((("thing", ("hide", FREE, ONE, ("some", VAR))),), HALT)))))

    def test_kinds_of_blocks(self):
        """In a body stand its kind variables, and its things with these."""
        poly = (2, (VAR, ("cell", ("var", 1)), PACK), ((("get", name(1)), ("set", name(1), name(3)), ("open", name(2)), ("part", name(5), 0),
                ("thing", ("hide", ("free", 2), name(6), ("some", VAR)))), ("jump", ("at", ("label", 0), (FREE, ("free", 1))), (name(0), name(1), name(2)))))
        self.right(((poly,), EMPTY))
        rows, end = poly[2]
        self.ill((0, 0, 2, 0, 1), (((2, poly[1], ((("get", name(1)), ("set", name(1), name(0))), end)),), EMPTY))
        self.ill((0, 0, 2, 1), (((2, poly[1], (rows, ("jump", ("at", ("label", 0), (("free", 1), FREE)), (name(0), name(1), name(2))))),), EMPTY))
        self.ill((0, 0, 2, 1, 1), (((2, poly[1], (rows, ("jump", ("at", ("label", 0), (FREE, ("free", 3))), (name(0), name(1), name(2))))),), EMPTY))
        self.ill((0, 0, 2, 0, 0, 1), (((0, (), ((("thing", name(0)),), HALT)),), EMPTY))

    def test_ends(self):
        self.end(("jump", ("label", 2), ()))
        self.end(("jump", ("label", 0), (name(0),)))
        self.end(("jump", ("at", ("label", 1), (INT, INT)), (ONE, name(1))))
        for end in [("jump", ("label", 2), (ONE,)), ("jump", ("label", 0), ()), ("jump", ("label", 0), (ONE, ONE)), ("jump", ("label", 0), (name(1),)), ("jump", ("label", 1), (ONE, name(1))),
                    ("jump", ("at", ("label", 1), (INT,)), (ONE, name(1))), ("jump", ONE, ()), ("jump", name(5), ()), ("jump", ("label", 2), None), ("jump", ("label", 2), [])]:
            self.end(end, ())
        for k in range(N):
            self.end(("halt", name(k)), None if k == 0 else ())
            self.end(("when", name(k), EMPTY, EMPTY), None if k == 0 else ())
            self.end(("match", name(k), (EMPTY, EMPTY)), None if k == 3 else ())
        for bodies in ((EMPTY,), (EMPTY,) * 3, (), None, [EMPTY, EMPTY], 2):
            self.end(("match", name(3), bodies), ())
        self.right((BLOCKS, (AHEAD, ("match", name(3), (((), ("halt", name(N))), ((("part", name(N), 0),), ("halt", name(N + 1))))))))
        self.ill((1, 1, 2, 1, 1), (BLOCKS, (AHEAD, ("match", name(3), (((), ("halt", name(N))), ((), ("halt", name(N))))))))

    def test_the_first_of_two_faults(self):
        bad = ((), ("halt", BAD))
        other = ((("thing", BAD),), ("halt", BAD))
        self.ill((0, 0, 2, 1, 1), (((0, (), bad), (0, (), other)), other))
        self.ill((0, 1, 2, 0, 0, 1), (((0, (), EMPTY), (0, (), other)), bad))
        self.ill((1, 0, 0, 1), (((0, (), EMPTY),), other))
        self.ill((1, 1, 2, 1, 1), ((), ((), ("when", ONE, bad, other))))
        self.ill((1, 1, 3, 0, 0, 1), ((), ((), ("when", ONE, EMPTY, other))))
        self.ill((1, 1, 2, 1, 3, 0, 0, 1), ((), ((), ("when", ONE, ((), ("when", ONE, EMPTY, other)), bad))))

    def test_deep_and_long(self):
        many = 2000
        thing, deep = ONE, EMPTY
        for _ in range(many):
            thing, deep = ("row", (thing,)), ((), ("when", ONE, deep, EMPTY))
        self.right(((), ((("thing", thing), ("cell", name(0)), ("set", name(1), thing), ("part", name(0), 0), ("cell", name(3))), deep[1])))
        self.ill((1, 0, 2), ((), ((("thing", thing), ("cell", name(0)), ("set", name(1), thing[1][0])), HALT)))
        self.ill((1, 0, 0, 1) + (1, 0) * many, ((), ((("thing", thing[:1] + ((with_inner(thing[1][0], many - 1),),)),), HALT)))

    def test_as_the_rules_told_plainly(self):
        told = {}
        programs = [closed_of(to_turns(program)) for program, _, _ in cores()]
        programs += [closed_of(to_turns(CoreMaker(seed).program(seed % 30 + 5))) for seed in range(40)]
        for seed, program in enumerate(programs):
            self.assertIsNone(closed_judged(program))
            self.assertIsNone(closed_fault(program))
            rng = random.Random(seed)
            for _ in range(25):
                value = changed(rng, program)
                place = closed_judged(value)
                self.assertEqual(place, closed_fault(value), value)
                told[place is None] = told.get(place is None, 0) + 1
        self.assertGreater(min(told.values()), 25)


def with_inner(row, many):
    """A row within so many rows, the innermost thing being wrong."""
    thing = BAD
    for _ in range(many):
        thing = ("row", (thing,))
    return thing


if __name__ == "__main__":
    unittest.main()
