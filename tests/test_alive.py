import random
import time
import unittest

from kindscarried.alive import alive_in, width_of
from kindscarried.closing import closed_of
from kindscarried.errors import IllKinded
from kindscarried.stored import stored_judged
from kindscarried.storing import stored_of
from kindscarried.to_turns import to_turns
from tests.changes import changed
from tests.common import STRANGE, Case
from tests.programs import cores
from tests.random_core import CoreMaker

INT = ("int",)
VAR = ("var", 0)
ONE = ("int", 1)
HALT = ("halt", ONE)
EMPTY = ((), HALT)
UNIT = ("room", ())
BOTH = ("one", (INT, INT))


def name(k):
    return ("name", k)


def names_in(value):
    """All names that stand in a thing, row or end, its bodies aside (kinds have none)."""
    if not isinstance(value, tuple):
        return set()
    if value[:1] == ("name",) and len(value) == 2 and type(value[1]) is int:
        return {value[1]}
    if value[:1] in (("when",), ("match",)):
        return names_in(value[1])
    return set().union(*[names_in(member) for member in value])


def bodies_in(end, behind):
    if end[0] == "when":
        return [(end[2], behind), (end[3], behind)]
    return [(body, behind + 1) for body in end[2]] if end[0] == "match" else []


def readers(body, many):
    """The set of all names from ahead of the body that are read in it, at any depth."""
    rows, end = body
    read = names_in(end).union(*[names_in(row) for row in rows])
    for inner, inside in bodies_in(end, many + len(rows)):
        read |= readers(inner, inside)
    return {k for k in read if k < many}


def naive_alive(body, many):
    """For each row and the end: the names bound ahead that this or something behind it reads."""
    rows, end = body
    return [sorted(readers((rows[at:], end), many + at)) for at in range(len(rows) + 1)]


def naive_width(program):
    numbers = [0]

    def look(body, many):
        rows, end = body
        alive = naive_alive(body, many)
        for at in range(len(rows)):
            numbers.append(len(set(alive[at + 1]) | {many + at}))
        if end[0] == "jump":
            numbers.append(len(end[2]))
        behind = many + len(rows)
        for inner, inside in bodies_in(end, behind):
            numbers.append(len([k for k in readers(inner, inside) if k < behind]) + inside - behind)
            look(inner, inside)

    for _, ks, body in program[0]:
        numbers.append(len(ks))
        look(body, len(ks))
    look(program[1], 0)
    return max(numbers)


class AliveIn(Case):
    def alive(self, rows, end, many, wanted):
        told = alive_in((rows, end), many)
        self.assertEqual(told, wanted)
        self.assertIs(type(told), list)
        self.assertTrue(all(type(part) is list for part in told))
        self.assertEqual(alive_in(body=(rows, end), many=many), naive_alive((rows, end), many))

    def test_ends(self):
        self.alive((), HALT, 0, [[]])
        self.alive((), HALT, 3, [[]])
        self.alive((), ("halt", name(2)), 3, [[2]])
        self.alive((), ("jump", name(2), (name(0), ONE, name(0))), 3, [[0, 2]])
        self.alive((), ("jump", ("at", name(1), (INT,)), (("hide", INT, ("fold", INT, name(2)), INT),)), 3, [[1, 2]])
        self.alive((), ("when", name(2), EMPTY, ((), ("halt", name(0)))), 3, [[0, 2]])
        self.alive((), ("match", name(1), (EMPTY, ((), ("halt", name(0))))), 3, [[0, 1]])

    def test_rows(self):
        self.alive((("say", name(0)),), HALT, 1, [[0], []])
        self.alive((("sum", "add", name(1), name(0)),), ("halt", name(2)), 2, [[0, 1], [2]])
        self.alive((("thing", ONE), ("thing", ONE), ("thing", ONE)), ("halt", name(1)), 0, [[], [], [1], [1]])
        self.alive((("cell", name(0)), ("get", name(2)), ("set", name(2), name(1))), ("halt", name(1)), 2, [[0, 1], [1, 2], [1, 2], [1]])
        self.alive((("room", (INT, UNIT)), ("put", name(2), 0, name(0)), ("put", name(3), 1, name(1)), ("part", name(4), 0)), ("halt", name(5)), 2, [[0, 1], [0, 1, 2], [1, 3], [4], [5]])
        self.alive((("tagged", 0, BOTH, name(0)), ("open", name(1)), ("unfold", name(1)), ("part", name(1), 0)), HALT, 2, [[0, 1], [1], [1], [1], []])

    def test_ascending_without_duplicates(self):
        self.alive((("sum", "add", name(11), name(2)),), ("jump", name(7), (name(10), name(9), name(10), name(2))), 12, [[2, 7, 9, 10, 11], [2, 7, 9, 10]])

    def test_a_name_read_in_no_place(self):
        self.alive((("thing", ONE), ("thing", name(0))), HALT, 2, [[0], [0], []])

    def test_bodies_within_bodies(self):
        # Name 0 is read only in the innermost body, 1 only in the second body of the match, 2 in none; the match binds name 5.
        inner = ((("say", name(6)),), ("when", ("int", 0), ((("say", name(0)),), HALT), ((), ("halt", name(4)))))
        body = ((("thing", ONE), ("tagged", 0, BOTH, ONE)), ("match", name(4), (((("thing", name(5)),), ("halt", name(6))), ((("thing", name(5)),) + inner[0], inner[1]), ((), ("halt", name(1))))))
        self.alive(body[0], body[1], 3, [[0, 1], [0, 1], [0, 1, 4]])
        self.alive((("thing", ONE),), ("when", name(3), ((), ("when", name(0), EMPTY, ((("say", name(2)),), ("halt", name(4))))), EMPTY), 3, [[0, 2], [0, 2, 3]])
        # Names that a body binds itself are none from ahead of it.
        self.alive((), ("when", ONE, ((("thing", ONE),), ("halt", name(1))), ((("thing", ONE), ("thing", name(1))), ("halt", name(2)))), 1, [[]])
        self.alive((), ("match", name(0), (((), ("halt", name(1))), ((("sum", "add", name(1), name(1)),), ("halt", name(2))))), 1, [[0]])


class WidthOf(Case):
    def width(self, program, wanted):
        self.assertIsNone(stored_judged(program))
        self.assertEqual(width_of(program), wanted)
        self.assertEqual(width_of(program=program), wanted)
        self.assertEqual(naive_width(program), wanted)

    def test_none(self):
        self.width(((), EMPTY), 0)
        self.width((((0, (), EMPTY),), EMPTY), 0)
        self.width(((), ((), ("when", ONE, EMPTY, EMPTY))), 0)

    def test_blocks_and_jumps(self):
        self.width((((0, (INT,) * 7, EMPTY),), EMPTY), 7)
        self.width((((0, (), EMPTY), (0, (INT,) * 4, EMPTY)), ((), ("jump", ("label", 1), (ONE,) * 4))), 4)
        # In a loop whose head has as many, too; things that are no names count as well.
        self.width((((0, (INT,) * 9, ((), ("jump", ("label", 0), (name(8),) + (ONE,) * 8))),), EMPTY), 9)

    def test_a_jump_to_what_is_handed_in(self):
        self.width((((0, (("not", 0, (INT,) * 9),), ((), ("jump", name(0), (ONE,) * 9))),), EMPTY), 9)
        self.width((((0, (("not", 0, ()),), ((), ("jump", name(0), ()))),), EMPTY), 1)

    def test_rows(self):
        self.width(((), ((("thing", ONE),), HALT)), 1)
        self.width(((), ((("thing", ONE), ("thing", ONE), ("thing", ONE)), HALT)), 1)
        self.width(((), ((("thing", ONE), ("thing", ONE)), ("halt", name(0)))), 2)
        self.width(((), ((("thing", ONE), ("thing", ONE)), ("halt", name(1)))), 1)
        self.width(((), ((("thing", ONE), ("thing", ONE), ("sum", "add", name(0), name(1))), ("halt", name(2)))), 2)
        self.width(((), ((("thing", ONE), ("thing", ONE), ("thing", ONE), ("sum", "add", name(0), name(1)), ("sum", "add", name(2), name(3))), ("halt", name(0)))), 3)

    def test_bodies(self):
        two = (("thing", ONE), ("thing", ONE))
        reads = ((("say", name(0)),), ("halt", name(1)))
        self.width(((), (two, ("when", ONE, reads, EMPTY))), 2)
        self.width((((0, (INT, INT), ((), ("when", ONE, EMPTY, reads))),), EMPTY), 2)
        # A match counts 1 more, whether its name is read or not.
        one = ("tagged", 0, BOTH, ONE)
        self.width(((), ((one,), ("match", name(0), (EMPTY, EMPTY)))), 1)
        self.width(((), (two + (one,), ("match", name(2), (EMPTY, EMPTY)))), 1)
        self.width(((), (two + (one,), ("match", name(2), (EMPTY, reads)))), 3)
        self.width(((), (two + (one,), ("match", name(2), (EMPTY, ((("say", name(3)), ("say", name(0))), ("halt", name(1))))))), 3)
        self.width((((0, (INT, INT, BOTH, INT), ((), ("match", name(2), (((("say", name(0)), ("say", name(3))), ("halt", name(1))), EMPTY)))),), EMPTY), 4)
        # It counts though what is matched is read again, so that no other number is as great.
        again = ("match", name(0), (((), ("match", name(0), (EMPTY, EMPTY))), EMPTY))
        self.width(((), ((one,), again)), 2)
        self.width((((0, (BOTH,), ((), again)),), EMPTY), 2)
        self.width((((0, (BOTH,), ((), ("match", name(0), (EMPTY, ((), ("when", name(1), EMPTY, ((), ("match", name(0), (EMPTY, EMPTY))))))))),), EMPTY), 2)
        # The greatest one may stand deep within.
        deep = ((), ("when", ONE, EMPTY, ((two + two), ("when", ONE, ((("say", name(0)), ("say", name(1)), ("say", name(2))), ("halt", name(3))), EMPTY))))
        self.width(((), deep), 4)

    def test_a_body_whose_names_are_bound_in_it(self):
        self.width((((0, (INT, BOTH), ((), ("match", name(1), (((), ("halt", name(2))), ((("sum", "add", name(0), name(2)),), ("halt", name(3))))))),), EMPTY), 2)

    def test_errors(self):
        for value in STRANGE:
            self.fails(IllKinded, "place", stored_judged(value), width_of, value)
        self.fails(IllKinded, "place", (1, 1, 1), width_of, ((), ((), ("halt", name(0)))))

    def test_great_programs(self):
        begun = time.time()
        many = 1500
        rows = tuple(("thing", ("int", k)) for k in range(many))
        self.assertEqual(width_of((((0, (INT,) * many, EMPTY),), (rows, ("jump", ("label", 0), tuple(name(k) for k in range(many)))))), many)
        deep = ((), ("jump", ("label", 0), tuple(name(k) for k in range(many))))
        for k in range(many):
            deep = ((("thing", ONE),), ("when", ONE, deep, ((), ("halt", name(many - 1 - k)))))
        self.assertEqual(width_of((((0, (INT,) * many, EMPTY),), deep)), many)
        self.assertEqual([len(part) for part in alive_in(deep, 0)], [0, 1])
        self.assertLess(time.time() - begun, 10)


class Others(Case):
    def test_as_told_plainly(self):
        programs = [stored_of(closed_of(to_turns(core))) for core, _, _ in cores()] + [stored_of(closed_of(to_turns(CoreMaker(seed).program(seed % 40 + 5)))) for seed in range(60)]
        seen = {}
        for seed, program in enumerate(programs):
            rng = random.Random(seed)
            values = [program] + [value for value in [changed(rng, program) for _ in range(12)] if stored_judged(value) is None]
            for value in values:
                self.assertEqual(width_of(value), naive_width(value))
                seen[width_of(value)] = True
                for many, body in [(len(ks), body) for _, ks, body in value[0]] + [(0, value[1])]:
                    self.assertEqual(alive_in(body, many), naive_alive(body, many))
                    self.assertEqual(alive_in(body, many + 5), naive_alive(body, many + 5))
        self.assertGreater(len(seen), 7)


if __name__ == "__main__":
    unittest.main()
