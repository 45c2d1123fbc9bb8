import random
import time
import unittest

from kindscarried.alive import width_of
from kindscarried.closing import closed_of
from kindscarried.errors import IllKinded, InvalidCount, TooMany
from kindscarried.narrowing import narrowed
from kindscarried.stored import run_stored, stored_judged
from kindscarried.storing import stored_of
from kindscarried.to_turns import to_turns
from tests.changes import changed
from tests.common import STRANGE, Case
from tests.programs import cores
from tests.random_stored import StoredMaker

INT = ("int",)
VAR = ("var", 0)
ONE = ("int", 1)
HALT = ("halt", ONE)
EMPTY = ((), HALT)
UNIT = ("room", ())
BOTH = ("one", (INT, UNIT))
PACK = ("some", ("room", ((VAR, True), (("not", 0, (VAR,)), True))))


def name(k):
    return ("name", k)


def ints(many, first=0):
    return tuple(("thing", ("int", first + k)) for k in range(many))


def says(names):
    return tuple(("say", name(k)) for k in names)


def rows_and_ends(program):
    many = 0
    bodies = [body for _, _, body in program[0]] + [program[1]]
    while bodies:
        rows, end = bodies.pop()
        many += len(rows) + 1
        if end[0] == "when":
            bodies += [end[2], end[3]]
        elif end[0] == "match":
            bodies += list(end[2])
    return many


class NarrowCase(Case):
    def narrow(self, program, width, beats=(0, 1, 2, 3, 5, 9, 40)):
        """What narrowed tells is as the point says."""
        self.assertIsNone(stored_judged(program))
        before = repr(program)
        wide = width_of(program)
        told = narrowed(program, width)
        self.assertEqual(narrowed(program=program, width=width), told)
        self.assertEqual(repr(program), before)
        if wide <= width:
            self.assertEqual(told, program)
            return told
        self.assertIsNone(stored_judged(told))
        self.assertLessEqual(width_of(told), width)
        self.assertEqual([block[:2] for block in told[0]], [block[:2] for block in program[0]])
        self.assertLessEqual(rows_and_ends(told), (8 * wide + 20) * rows_and_ends(program))
        for k in beats:
            self.assertEqual(run_stored(told, k), run_stored(program, k))
        return told


class Widths(NarrowCase):
    def wide(self, many):
        return ((), (ints(many) + says(range(many)), HALT))

    def test_just_within_and_beyond(self):
        for many in range(1, 16):
            for width in range(6, 17):
                told = self.narrow(self.wide(many), width, (0,))
                self.assertEqual(told == self.wide(many), many <= width)
                self.assertEqual(run_stored(told, 0), ("done", 1, tuple(range(many))))

    def test_many_things_in_each_sequence(self):
        rng = random.Random(7)
        for width in (6, 7, 9, 14):
            order = list(range(40))
            rng.shuffle(order)
            self.narrow(((), (ints(40) + says(order) + says(order), HALT)), width, (0,))

    def test_each_thing_is_read_once(self):
        # So many that the room must be made anew, when all hands are full.
        rng = random.Random(3)
        for width in (6, 7, 8, 11):
            for many in (20, 40, 70):
                order = list(range(many))
                for _ in range(3):
                    self.narrow(((), (ints(many) + says(order), HALT)), width, (0,))
                    rng.shuffle(order)
                unlike = tuple(("cell", name(k)) for k in range(many))
                self.narrow(((), (ints(many) + unlike + tuple(("get", name(many + k)) for k in order) + says(range(2 * many, 3 * many)), HALT)), width, (0,))
                cells = (("thing", ONE),) + tuple(("cell", name(k)) for k in range(many // 3)) + tuple(("set", name(many // 3 - k), name(many // 3 - k - 1)) for k in range(many // 3))
                self.narrow(((), (cells, HALT)), width, (0,))

    def test_only_wide_blocks_are_made_anew(self):
        small = (0, (INT, INT), ((("sum", "add", name(0), name(1)),), ("halt", name(2))))
        great = (0, (INT,), (ints(9) + says(range(10)), ("jump", ("label", 0), (name(0), ONE))))
        told = self.narrow(((small, great), ((), ("jump", ("label", 1), (("int", 3),)))), 6)
        self.assertEqual(told[0][0], small)

    def test_what_rows_read_and_bind(self):
        # Each sort of row, with its things from far back.
        one = ("one", (INT, ("free", 0)))
        rec = ("rec", ("one", (INT, VAR)))
        rows = ints(6) + (
            ("sum", "take", name(0), name(5)), ("cell", name(1)), ("get", name(7)), ("set", name(7), name(2)), ("thing", name(3)), ("room", (INT, UNIT)),
            ("put", name(11), 0, name(4)), ("put", name(12), 1, name(9)), ("part", name(13), 0), ("tagged", 0, BOTH, name(0)),
            ("thing", ("hide", INT, name(1), ("some", VAR))), ("open", name(16)), ("tagged", 1, one, name(17)),
            ("tagged", 0, ("one", (INT, rec)), name(2)), ("thing", ("fold", rec, name(19))), ("unfold", name(20)), ("get", name(7)), ("say", name(22)))
        rows += says([0, 1, 2, 3, 4, 5, 6, 8, 10, 14]) + (("thing", ("int", 8)),)
        many = len(rows)

        def first(bound):
            return ((("say", name(bound)), ("sum", "add", name(0), name(6)), ("set", name(7), name(10)), ("get", name(7))), ("halt", name(bound + 4)))

        inner = ((("say", name(many + 5)),), ("halt", name(many + 2)))
        second = ((("tagged", 0, one, name(5)), ("part", name(13), 0), ("say", name(34)), ("thing", name(18))), ("match", name(21), (inner, EMPTY)))
        for width in range(6, 16):
            self.narrow(((), (rows, ("match", name(15), (first(many), EMPTY)))), width)
            self.narrow(((), (rows, ("match", name(15), (EMPTY, EMPTY)))), width)
            self.narrow(((), (rows, ("match", name(21), (first(many), ((), ("match", name(15), (first(many + 1), EMPTY))))))), width)
            self.narrow(((), (rows, ("match", name(15), (second, EMPTY)))), width)

    def test_elder_names_of_rooms(self):
        # Names 1 to 3 lead to one room; what is put in by the eldest one is there for all.
        rows = (("room", (INT, INT)),) + (("put", name(0), 0, ("int", 5)), ("put", name(1), 1, ("int", 6)), ("thing", name(2))) + ints(7)
        rows += says(range(4, 11)) + (("put", name(0), 1, ("int", 9)), ("part", name(2), 1), ("say", name(19)), ("put", name(1), 0, ("int", 4)), ("part", name(3), 0), ("say", name(22)), ("part", name(18), 1), ("say", name(24)))
        for width in (6, 7, 8, 12):
            self.narrow(((), (rows + says(range(4, 11)), HALT)), width)


class Bodies(NarrowCase):
    def test_names_alive_over_ends(self):
        def reading(ahead, first=0):
            """A body, ahead of which are so many names, that reads the eight ints from the first one on, and binds and reads others."""
            own = ahead + 8
            return (says(range(first, first + 8)) + ints(6) + says(range(own, own + 6)) + says([first + 3]), ("halt", name(first + 2)))

        for width in (6, 7, 8, 10):
            self.narrow(((), (ints(8), ("when", ("int", 0), reading(8), EMPTY))), width)
            self.narrow(((), (ints(8), ("when", ONE, EMPTY, reading(8)))), width)
            self.narrow(((), (ints(8), ("when", ONE, ((), ("when", ONE, reading(8), reading(8))), ((), ("when", ("int", 0), reading(8), EMPTY))))), width)
            tagged = (("tagged", 1, ("one", (INT, INT, INT)), ONE),) + ints(8)
            again = (says([9, 1]), ("match", name(0), (EMPTY, reading(13, 1), EMPTY)))
            self.narrow(((), (tagged, ("match", name(0), (EMPTY, reading(10, 1), reading(10, 2))))), width)
            self.narrow(((), (tagged, ("match", name(0), (reading(10, 1), again, reading(10, 1))))), width)

    def test_a_match_takes_one_more(self):
        # As many are alive as may be, and the match binds one more.
        for many in range(2, 12):
            for read in (True, False):
                body = (says(range(many)) + (says([many + 1]) if read else ()), HALT)
                program = ((), (ints(many) + (("tagged", 0, ("one", (INT, INT)), ONE),), ("match", name(many), (body, ((("say", name(many + 1)),), HALT)))))
                for width in (6, 7, 8, 9):
                    self.narrow(program, width)

    def test_rooms_are_not_shared_by_runs_of_a_body(self):
        # A loop: each time round the room is another one.
        loop = (0, (INT, ("cell", INT)), (ints(6) + (("get", name(1)), ("sum", "add", name(8), name(0)), ("set", name(1), name(9)), ("sum", "take", name(0), ONE)) + says([0, 2, 3, 4, 5, 6, 7, 9]),
                ("when", name(11), ((), ("halt", name(9))), ((), ("jump", ("label", 0), (name(11), name(1)))))))
        for width in (6, 7):
            self.narrow(((loop,), ((("cell", ONE),), ("jump", ("label", 0), (("int", 5), name(0))))), width, range(12))

    def test_hidden_kinds_that_are_opened(self):
        rows = (("room", (INT, ("not", 0, (INT,)))),)
        rows += (("put", name(0), 0, ("int", 5)), ("put", name(1), 1, ("label", 0)))
        rows += tuple(("open", ("hide", INT, name(2), PACK)) for _ in range(6)) + ints(4)
        rows += tuple(("part", name(3 + k), 0) for k in range(6)) + tuple(("part", name(3 + k), 1) for k in range(6))
        at = 13
        rows += tuple(("cell", name(at + k)) for k in range(6)) + says(range(9, 13))
        ends = [("jump", name(at + 6 + k), (name(at + k),)) for k in range(6)]
        whole = ends[5]
        for k in range(5):
            whole = ("when", name(9 + k % 4), ((), ends[k]), ((), whole))
        program = (((0, (INT,), ((("say", name(0)),), ("halt", name(0)))),), (rows, whole))
        for width in (6, 7, 9, 12):
            self.narrow(program, width)

    def test_kind_variables_of_blocks(self):
        block = (2, (("cell", VAR), ("cell", ("var", 1))), (ints(5) + (("get", name(0)), ("get", name(1)), ("cell", name(7)), ("cell", name(8)), ("set", name(0), name(7)), ("set", name(10), name(8))) + says(range(2, 7)), ("jump", ("at", ("label", 0), (("free", 1), ("free", 0))), (name(1), name(0)))))
        start = ((("cell", ONE), ("room", ()), ("cell", name(1))), ("jump", ("at", ("label", 0), (INT, UNIT)), (name(0), name(2))))
        for width in (6, 7):
            self.narrow(((block,), start), width, range(5))

    def test_places_are_used_again(self):
        # Eight ints are alive at any time, over a thousand rows.
        rows = ints(8)
        for k in range(500):
            rows += (("sum", "add", name(k), name(k + 7)),)
        told = self.narrow(((), (rows, ("halt", name(507)))), 6, (0,))
        rooms = [row for row in told[1][0] if row[0] == "room"]
        self.assertLess(max(len(row[1]) for row in rooms), 60)
        self.assertLess(rows_and_ends(told), 6 * rows_and_ends(((), (rows, HALT))))


class Errors(Case):
    def wide(self, width, handed, things, deep=False):
        """Wider than the width, with a block that is handed so many, and a jump to it that reads so many unlike names."""
        vs = tuple(name(k % things) for k in range(handed))
        if deep:
            vs = tuple(("hide", INT, v, ("some", VAR)) for v in vs)
        block = (0, ((("some", VAR) if deep else INT),) * handed, EMPTY)
        many = max(width + 1, things)
        return ((block,), (ints(many) + says(range(many)), ("jump", ("label", 0), vs)))

    def test_too_many(self):
        for width in range(6, 14):
            for deep in (False, True):
                self.assertLessEqual(width_of(narrowed(self.wide(width, width - 3, 2, deep), width)), width)
                self.assertLessEqual(width_of(narrowed(self.wide(width, width - 3, width - 3, deep), width)), width)
                self.fails(TooMany, "count", width, narrowed, self.wide(width, width - 2, 2, deep), width)
                self.fails(TooMany, "count", width, narrowed, self.wide(width, width - 2, width - 2, deep), width)

    def test_what_is_jumped_to_is_read_too(self):
        for width in (6, 8):
            for more, handed in ((0, width - 4), (1, width - 3)):
                kinds = (("not", 0, (INT,) * handed),)
                block = (0, kinds, (ints(width + 1) + says(range(1, width + 2)), ("jump", name(0), tuple(name(1 + k) for k in range(handed)))))
                if more:
                    self.fails(TooMany, "count", width, narrowed, ((block,), EMPTY), width)
                else:
                    self.assertLessEqual(width_of(narrowed(((block,), EMPTY), width)), width)
                # The same name twice is one.
                twice = block[:2] + ((block[2][0], ("jump", name(0), (name(1),) * handed)),)
                self.assertLessEqual(width_of(narrowed(((twice,), EMPTY), width)), width)

    def test_blocks_and_jumps_by_themselves(self):
        wide = (ints(7) + says(range(7)), HALT)
        # A block that nobody jumps to, that is narrow by itself.
        self.fails(TooMany, "count", 6, narrowed, (((0, (INT,) * 4, EMPTY),), wide), 6)
        narrowed((((0, (INT,) * 3, EMPTY),), wide), 6)
        # A jump deep within, to what is handed in.
        for many, right in ((3, True), (4, False)):
            deep = ((), ("when", ONE, ((), ("match", name(1), (EMPTY, ((), ("jump", name(0), (ONE,) * many))))), EMPTY))
            program = (((0, (("not", 0, (INT,) * many), BOTH), deep),), wide)
            if right:
                narrowed(program, 6)
            else:
                self.fails(TooMany, "count", 6, narrowed, program, 6)
        # Names that only the bodies of an end read are none of the end.
        many = 9
        program = ((), (ints(many), ("when", name(0), (says(range(many)), HALT), (says(range(many)), HALT))))
        self.assertLessEqual(width_of(narrowed(program, 6)), 6)
        # As wide as may be: nothing is asked.
        self.assertEqual(narrowed((((0, (INT,) * 6, EMPTY),), EMPTY), 6), (((0, (INT,) * 6, EMPTY),), EMPTY))
        self.fails(TooMany, "count", 6, narrowed, (((0, (INT,) * 7, EMPTY),), EMPTY), 6)

    def test_sequence(self):
        right, ill = ((), EMPTY), ((), ((), ("halt", name(0))))
        for width in (5, 0, -1, True, None, "6", (6,), 10 ** 89 * -1):
            self.fails(InvalidCount, None, None, narrowed, right, width)
            self.fails(IllKinded, "place", (1, 1, 1), narrowed, ill, width)
        for value in STRANGE:
            self.fails(IllKinded, "place", stored_judged(value), narrowed, value, 6)
        # The width is looked at ahead of whether it is enough.
        self.fails(InvalidCount, None, None, narrowed, self.wide(6, 4, 4), 5)
        self.assertEqual(narrowed(right, 10 ** 89), right)
        self.fails(IllKinded, "place", (1, 1, 1), narrowed, ill, 6)


class Others(NarrowCase):
    def test_compiled(self):
        for core, number, letters in cores():
            program = stored_of(closed_of(to_turns(core)))
            for width in (6, 7, 8, 10):
                try:
                    self.assertEqual(run_stored(self.narrow(program, width, (1, 7)), 1000), ("done", number, letters))
                except TooMany:
                    pass

    def test_by_chance(self):
        seen = {}
        for seed in range(120):
            rng = random.Random(seed)
            program = StoredMaker(seed, (10, 20, 40)[seed % 3], seed % 3, (6, 12, 20)[seed % 3]).program()
            values = [program] + [value for value in [changed(rng, program) for _ in range(4)] if stored_judged(value) is None]
            for value in values:
                for width in (6, 8):
                    told = self.narrow(value, width, (0, 2, 5, 30))
                    seen[told == value] = seen.get(told == value, 0) + 1
        self.assertGreater(min(seen.values()), 50)

    def test_great_programs(self):
        begun = time.time()
        many = 2000
        for order in (range(many), reversed(range(many))):
            self.narrow(((), (ints(many) + says(order), HALT)), 6, (0,))
        deep = (says(range(400)), HALT)
        for k in reversed(range(400)):
            deep = (ints(1, k), ("when", ("int", k % 2), deep, ((), ("halt", name(k)))) if k % 2 == 0 else ("when", ("int", k % 2), ((), ("halt", name(k))), deep))
        self.narrow(((), deep), 6, (0, 5, 500))
        unlike = [("thing", ONE)] + [("cell", name(k)) for k in range(150)] + [("set", name(150 - k), name(149 - k)) for k in range(150)]
        self.narrow(((), (tuple(unlike), HALT)), 6, (0,))
        packs = (("room", (INT, ("not", 0, (INT,)))), ("put", name(0), 0, ONE), ("put", name(1), 1, ("label", 0))) + tuple(("open", ("hide", INT, name(2), PACK)) for _ in range(100)) + tuple(("part", name(3 + k), 0) for k in range(100))
        packs += tuple(("cell", name(103 + k)) for k in range(100))
        self.narrow((((0, (INT,), EMPTY),), (packs, HALT)), 6, (0,))
        self.assertLess(time.time() - begun, 20)


if __name__ == "__main__":
    unittest.main()
