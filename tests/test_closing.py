import random
import time
import unittest

from kindscarried.closed import closed_judged
from kindscarried.closed_runs import run_closed
from kindscarried.closing import closed_kind, closed_of, kept_names
from kindscarried.errors import IllKinded, InvalidCount, InvalidKind
from kindscarried.kinds import CLOSED_WORDS, filled, is_kind, opened, shut, unfolded
from kindscarried.source_texts import source_told
from kindscarried.to_core import to_core
from kindscarried.to_turns import to_turns
from kindscarried.turns_looker import turns_judged
from kindscarried.turns_run import run_turns
from tests.common import STRANGE, Case
from tests.naive_steps import Scopes, naive_closed_of
from tests.programs import cores
from tests.random_core import CoreMaker
from tests.test_kinds import random_kind

INT = ("int",)
UNIT = ("row", ())
VAR = ("var", 0)
FREE = ("free", 0)
ONE = ("int", 1)
HALT = ("halt", ONE)
EMPTY = ((), HALT)


def name(k):
    return ("name", k)


def start(*rows, end=HALT):
    return (0, (), (rows, end))


def hidden(n, *ks):
    """The kind of a hidden function with n kinds and, behind its row, things of these kinds."""
    return ("some", ("row", (("not", n, (("var", n),) + ks), VAR)))


class ClosedKind(Case):
    def test_without_functions_nothing_changes(self):
        for kind in (INT, FREE, ("free", 10 ** 60 + 5), UNIT, ("row", (INT, FREE)), ("one", (INT,)), ("cell", INT), ("some", VAR), ("rec", ("cell", VAR)),
                     ("some", ("rec", ("row", (VAR, ("var", 1), ("free", 10 ** 70)))))):
            self.assertEqual(closed_kind(kind), kind)
            self.assertEqual(closed_kind(kind=kind), kind)

    def test_functions(self):
        for kind, wanted in [
                (("not", 0, ()), hidden(0)),
                (("not", 0, (INT, FREE)), hidden(0, INT, FREE)),
                (("not", 1, (VAR,)), hidden(1, VAR)),
                (("not", 2, (VAR, ("var", 1))), hidden(2, VAR, ("var", 1))),
                # Variables of binders around the function are one further off, those of binders in it not.
                (("some", ("not", 0, (VAR,))), ("some", hidden(0, ("var", 1)))),
                (("some", ("not", 2, (VAR, ("var", 2)))), ("some", hidden(2, VAR, ("var", 3)))),
                (("rec", ("not", 1, (VAR, ("var", 1)))), ("rec", hidden(1, VAR, ("var", 2)))),
                (("not", 1, (("some", ("row", (VAR, ("var", 1)))),)), hidden(1, ("some", ("row", (VAR, ("var", 1)))))),
                (("some", ("not", 0, (("some", ("row", (VAR, ("var", 1)))),))), ("some", hidden(0, ("some", ("row", (VAR, ("var", 2))))))),
                (("not", 1, (("not", 0, (VAR,)),)), hidden(1, hidden(0, ("var", 1)))),
                (("not", 1, (("not", 1, (VAR, ("var", 1))),)), hidden(1, hidden(1, VAR, ("var", 2)))),
                (("some", ("not", 0, (("not", 0, (VAR,)), VAR))), ("some", hidden(0, hidden(0, ("var", 2)), ("var", 1)))),
                (("some", ("not", 1, (("rec", ("not", 2, (VAR, ("var", 1), ("var", 2), ("var", 3), ("var", 4)))),))),
                 ("some", hidden(1, ("rec", hidden(2, VAR, ("var", 1), ("var", 3), ("var", 4), ("var", 6)))))),
                (("cell", ("one", (("not", 0, (INT,)), INT))), ("cell", ("one", (hidden(0, INT), INT)))),
                (("not", 0, (("free", 10 ** 61),)), hidden(0, ("free", 10 ** 61))),
                (("not", 10000, (("var", 9999), VAR)), hidden(10000, ("var", 9999), VAR)),
                (("some", ("not", 10000, (("var", 10000), ("var", 9999)))), ("some", hidden(10000, ("var", 10001), ("var", 9999)))),
                (("not", 10000, (("not", 9999, (("var", 19998), ("var", 9998))),)), hidden(10000, hidden(9999, ("var", 19999), ("var", 9998))))]:
            self.assertEqual(closed_kind(kind), wanted)
            self.assertTrue(is_kind(10 ** 80, closed_kind(kind), CLOSED_WORDS))

    def test_invalid_kinds(self):
        for value in STRANGE:
            if value != INT:
                self.fails(InvalidKind, None, None, closed_kind, value)
            self.fails(InvalidKind, None, None, closed_kind, ("row", (INT, value, None)))
        for kind in (("to", 0, (), INT), ("room", ()), ("code", 0, ()), VAR, ("some", ("var", 1)), ("not", 1, (("var", 1),)), ("not", 10001, ()), ("not", -1, ()), ("rec", VAR),
                     ("rec", FREE), ("one", ()), ("free", -1), ("free", False), ["int"], ("not", 0, [INT]), ("not", 0, (("to", 0, (), INT),))):
            self.fails(InvalidKind, None, None, closed_kind, kind)

    def test_many_and_deep(self):
        begun = time.time()
        kind = ("not", 5000, tuple(("var", k) for k in range(5000)))
        self.assertEqual(closed_kind(("some", kind))[1], hidden(5000, *kind[2]))
        deep = VAR
        for _ in range(400):
            deep = ("not", 0, (deep,))
        told = closed_kind(("some", deep))[1]
        for _ in range(400):
            self.assertEqual(told[1][1][0][2][0], VAR)
            told = told[1][1][0][2][1]
        self.assertEqual(told, ("var", 400))
        self.assertLess(time.time() - begun, 5)

    def test_facts(self):
        """It goes along with opened and unfolded, and unlike kinds become unlike ones."""
        rng = random.Random(4)
        seen = {}
        for _ in range(1500):
            kind = random_kind(rng, 3, 0, 4, CLOSED_WORDS)
            self.assertEqual(seen.setdefault(closed_kind(kind), kind), kind)
            kinds = tuple(random_kind(rng, 3, 0, 2, CLOSED_WORDS) for _ in range(3))
            told = tuple(closed_kind(other) for other in kinds)
            self.assertEqual(closed_kind(filled(kind, kinds)), filled(closed_kind(kind), told))
            some = ("some", shut(kind, (1,)))
            self.assertEqual(closed_kind(opened(some, kinds[:1])), opened(closed_kind(some), told[:1]))
            rec = ("rec", ("row", (shut(kind, (0,)),)))
            self.assertEqual(closed_kind(unfolded(rec)), unfolded(closed_kind(rec)))
            order = tuple(rng.sample(range(3), rng.randrange(4)))
            binder = ("not", len(order), (shut(kind, order), shut(kinds[0], order)))
            row = opened(closed_kind(binder), (INT,))
            self.assertEqual(opened(row[1][0], told[:len(order)]), (INT,) + tuple(closed_kind(part) for part in opened(binder, kinds[:len(order)])))


class KeptNames(Case):
    def keeps(self, functions, *wanted):
        self.assertIsNone(turns_judged(functions))
        for j, names in enumerate(wanted):
            self.assertEqual(kept_names(functions, j + 1), names)
            self.assertEqual(kept_names(program=functions, j=j + 1), names)

    def test_where_names_stand(self):
        ahead = (("cell", ONE), ("row", (ONE, ONE)), ("sum", "add", ONE, ONE), ("tag", 0, ("one", (INT,)), ONE), ("sum", "add", ONE, ONE))
        # Behind these the function is the name 5, its arguments 6 and 7.
        for rows, end, wanted in [
                ((), HALT, ()), ((("get", name(0)),), HALT, (0,)), ((("say", name(4)), ("say", name(2)), ("say", name(2))), HALT, (2, 4)),
                ((("sum", "add", name(4), name(2)), ("row", (name(1), ONE, name(0)))), HALT, (0, 1, 2, 4)), ((("part", name(1), 0),), HALT, (1,)),
                ((("set", name(0), name(2)),), HALT, (0, 2)), ((("cell", name(6)), ("say", name(7)), ("cell", name(5))), HALT, ()), ((), ("halt", name(2)), (2,)),
                ((), ("jump", name(5), (), (name(2), name(4))), (2, 4)), ((), ("when", name(4), ((), ("halt", name(2))), ((("get", name(0)),), HALT)), (0, 2, 4)),
                ((), ("match", name(3), (((("say", name(4)),), ("halt", name(8))),)), (3, 4)),
                ((("tag", 0, ("one", (INT,)), name(2)), ("hide", INT, name(4), ("some", VAR)), ("fold", ("rec", ("row", (INT, INT))), name(1))), HALT, (1, 2, 4)),
                ((("hide", UNIT, name(8), ("some", VAR)),), HALT, None)]:
            functions = (start(*ahead, ("fun", 1)), (0, (INT, INT), (rows, end)))
            if wanted is None:
                self.fails(IllKinded, "place", (1, 2, 0, 0), kept_names, functions, 1)
            else:
                self.keeps(functions, wanted)

    def test_functions_made_in_it(self):
        cells = (("cell", ONE), ("cell", ONE), ("cell", ONE))
        # Function 2, made in 1, uses names of the start, and of 1.
        outer = (0, (INT,), ((("get", name(2)), ("fun", 2)), HALT))
        self.keeps((start(*cells, ("fun", 1)), outer, (0, (INT,), ((("get", name(0)), ("say", name(4)), ("cell", name(3))), HALT))), (0, 2), (0, 3, 4))
        # Through two of them, out of branches of a when and a match.
        one = ("tag", 0, ("one", (INT, INT)), ONE)
        middle = (0, (), ((one,), ("match", name(4), (EMPTY, ((("fun", 3),), HALT)))))
        last = (0, (), ((("get", name(1)), ("say", name(5))), HALT))
        functions = (start(*cells[:2], ("fun", 1)), (0, (), ((), ("when", ONE, ((("fun", 2),), HALT), EMPTY))), middle, last)
        self.keeps(functions, (1,), (1,), (1, 5))

    def test_start_keeps_nothing_and_the_function_not_itself(self):
        loop = (0, (INT,), ((), ("jump", name(1), (), (name(2),))))
        self.keeps((start(("cell", ONE), ("fun", 1)), loop), ())
        inside = (0, (), ((), ("jump", name(1), (), (ONE,))))
        self.keeps((start(("cell", ONE), ("fun", 1)), (0, (INT,), ((("fun", 2),), HALT)), inside), (), (1,))

    def test_errors(self):
        functions = (start(("fun", 1), ("fun", 2)), (0, (), EMPTY), (0, (), EMPTY))
        for j in (0, 3, -1, 10 ** 60, True, None, "1", (), [1], (1,)):
            self.fails(InvalidCount, None, None, kept_names, functions, j)
            self.fails(InvalidCount, None, None, kept_names, (start(),), j)
        for value in STRANGE:
            self.fails(IllKinded, "place", (), kept_names, value, 1)
            self.fails(IllKinded, "place", (), kept_names, value, -1)
        self.fails(IllKinded, "place", (0, 2, 1), kept_names, (start(end=("halt", name(0))),), None)

    def test_as_told_plainly(self):
        for core, _, _ in cores():
            program = to_turns(core)
            scopes = Scopes(program)
            for j in range(1, len(program)):
                self.assertEqual(kept_names(program, j), scopes.kept(j))


class ClosedOf(Case):
    def test_examples(self):
        program = (start(("cell", ("int", 4)), ("fun", 1), end=("jump", name(1), (), (("int", 5),))), (0, (INT,), ((("get", name(0)),), ("halt", name(3)))))
        closed = closed_of(program)
        self.assertEqual(closed_of(program=program), closed)
        kind = ("row", (("cell", INT),))
        some = hidden(0, INT)
        block = (0, (kind, INT), ((("part", name(0), 0), ("thing", ("hide", kind, ("row", (("at", ("label", 0), ()), name(0))), some)), ("get", name(2))), ("halt", name(4))))
        rows = (("cell", ("int", 4)), ("thing", ("hide", kind, ("row", (("at", ("label", 0), ()), ("row", (name(0),)))), some)), ("open", name(1)), ("part", name(2), 0), ("part", name(2), 1))
        self.assertEqual(closed, ((block,), (rows, ("jump", ("at", name(3), ()), (name(4), ("int", 5))))))

    def test_rows_and_names(self):
        """Rows become things or stay; a set or say binds a name here."""
        one = ("one", (INT, ("not", 0, ())))
        rec = ("rec", ("cell", ("not", 0, (VAR,))))
        rows = (("sum", "less", ONE, ONE), ("say", name(0)), ("row", (name(0), ONE)), ("part", name(1), 0), ("cell", name(2)), ("set", name(3), name(0)), ("get", name(3)), ("tag", 0, one, name(4)),
                ("hide", INT, name(4), ("some", VAR)), ("open", name(6)), ("hide", FREE, name(7), ("some", VAR)))
        closed_one = ("one", (INT, hidden(0)))
        wanted = (("sum", "less", ONE, ONE), ("say", name(0)), ("thing", ("row", (name(0), ONE))), ("part", name(2), 0), ("cell", name(3)), ("set", name(4), name(0)), ("get", name(4)),
                  ("thing", ("tag", 0, closed_one, name(6))), ("thing", ("hide", INT, name(6), ("some", VAR))), ("open", name(8)), ("thing", ("hide", FREE, name(9), ("some", VAR))))
        self.assertEqual(closed_of((start(*rows, end=("halt", name(4))),)), ((), (wanted, ("halt", name(6)))))
        ends = (start(("say", ONE), ("sum", "add", ONE, ONE), end=("when", name(0), ((("say", name(0)), ("cell", name(0))), ("halt", name(0))), ((("cell", name(0)), ("get", name(1))), ("halt", name(2))))),)
        self.assertEqual(closed_of(ends), ((), ((("say", ONE), ("sum", "add", ONE, ONE)), ("when", name(1), ((("say", name(1)), ("cell", name(1))), ("halt", name(1))), ((("cell", name(1)), ("get", name(2))), ("halt", name(3)))))))
        match = (start(("say", ONE), ("tag", 1, ("one", (INT, INT)), ONE), end=("match", name(0), (((("say", name(1)),), ("halt", name(1))), ((("sum", "add", name(1), ONE),), ("halt", name(2)))))),)
        self.assertEqual(closed_of(match), ((), ((("say", ONE), ("thing", ("tag", 1, ("one", (INT, INT)), ONE))), ("match", name(1), (((("say", name(2)),), ("halt", name(2))), ((("sum", "add", name(2), ONE),), ("halt", name(3))))))))
        fold = (start(("fun", 1), ("cell", name(0)), ("fold", rec, name(1)), ("unfold", name(2))), (0, (rec,), EMPTY))
        self.assertIsNone(turns_judged(fold))
        closed = closed_of(fold)
        self.assertEqual(closed[1][0][2:], (("thing", ("fold", closed_kind(rec), name(1))), ("unfold", name(2))))

    def test_kinds_of_functions(self):
        """Outer kind variables come first; a function is handed its own ones by the jump."""
        rows = (("hide", INT, ONE, ("some", VAR)), ("open", name(0)), ("fun", 1))
        # Its second own variable is free 2; the jump hands on kinds the other way about.
        body = ((("hide", ("free", 2), name(4), ("some", VAR)), ("cell", name(1))), ("jump", name(2), (("free", 2), FREE), (name(4), name(1))))
        program = (start(*rows, end=("jump", name(2), (FREE, INT), (name(1), ONE))), (2, (VAR, ("var", 1)), body))
        self.assertIsNone(turns_judged(program))
        held = ("row", (FREE,))
        some = hidden(2, VAR, ("var", 1))
        label = ("at", ("label", 0), (FREE,))
        wanted = (3, (("row", (VAR,)), ("var", 1), ("var", 2)),
                  ((("part", name(0), 0), ("thing", ("hide", held, ("row", (label, name(0))), some)), ("thing", ("hide", ("free", 2), name(2), ("some", VAR))), ("cell", name(3)),
                    ("open", name(4)), ("part", name(7), 0), ("part", name(7), 1)), ("jump", ("at", name(8), (("free", 2), FREE)), (name(9), name(2), name(3)))))
        closed = closed_of(program)
        self.assertEqual(closed[0], (wanted,))
        self.assertEqual(closed[1][0][2], ("thing", ("hide", held, ("row", (label, ("row", (name(1),)))), some)))
        self.assertEqual(closed[1][1], ("jump", ("at", name(4), (FREE, INT)), (name(5), name(1), ONE)))

    def test_functions_within_functions(self):
        # 2 is made in 1 and keeps a name of the start, 1 itself, and 1's argument; names are counted anew in each block.
        inner = (0, (INT,), ((("get", name(0)), ("sum", "add", name(5), name(2))), ("jump", name(1), (), (name(6),))))
        program = (start(("cell", ONE), ("fun", 1), end=("jump", name(1), (), (ONE,))), (0, (INT,), ((("say", name(2)), ("fun", 2)), ("jump", name(3), (), (name(2),)))), inner)
        self.assertIsNone(turns_judged(program))
        closed = closed_of(program)
        self.assertEqual(closed[0][0][1], (("row", (("cell", INT),)), INT))
        self.assertEqual(closed[0][0][2][0][2:4], (("say", name(1)), ("thing", ("hide", ("row", (("cell", INT), hidden(0, INT), INT)),
                         ("row", (("at", ("label", 1), ()), ("row", (name(2), name(3), name(1))))), hidden(0, INT)))))
        rows, end = closed[0][1][2]
        self.assertEqual(rows[:3], (("part", name(0), 0), ("part", name(0), 1), ("part", name(0), 2)))
        self.assertEqual(rows[4:], (("get", name(2)), ("sum", "add", name(6), name(4)), ("open", name(3)), ("part", name(8), 0), ("part", name(8), 1)))
        self.assertEqual(end, ("jump", ("at", name(9), ()), (name(10), name(7))))
        self.assertEqual([run_closed(closed, k) for k in range(5)], [run_turns(program, k) for k in range(5)])

    def test_what_is_not_read_is_written_too(self):
        program = (start(("fun", 1), ("row", ()), ("cell", ONE)), (0, (UNIT,), EMPTY))
        block = (0, (UNIT, UNIT), ((("thing", ("hide", UNIT, ("row", (("at", ("label", 0), ()), name(0))), hidden(0, UNIT))),), HALT))
        rows = (("thing", ("hide", UNIT, ("row", (("at", ("label", 0), ()), UNIT)), hidden(0, UNIT))), ("thing", UNIT), ("cell", ONE))
        self.assertEqual(closed_of(program), ((block,), (rows, HALT)))

    def alike(self, program, beats):
        """All that is promised of closed_of."""
        before = repr(program)
        closed = closed_of(program)
        self.assertEqual(closed, naive_closed_of(program))
        self.assertIsNone(closed_judged(closed))
        for k in beats:
            self.assertEqual(run_closed(closed, k), run_turns(program, k))
        self.assertEqual(repr(program), before)
        return closed

    def test_texts(self):
        for core, number, letters in cores():
            closed = self.alike(to_turns(core), list(range(8)) + [15, 30, 1000])
            self.assertEqual(run_closed(closed, 1000), ("done", number, letters))

    def test_random_programs(self):
        for seed in range(140):
            self.alike(to_turns(CoreMaker(seed).program((8, 20, 50)[seed % 3])), (0, 1, 2, 3, 5, 9, 40))

    def test_great_programs(self):
        begun = time.time()
        f = ("fun", 0, (INT,), INT, name(1))
        core = ("part", ("row", tuple(("call", f, (), (("int", k),)) for k in range(130))), 77)
        self.alike(to_turns(core), (0, 1, 100, 300))
        many = 1500
        deep = EMPTY
        for _ in range(many):
            deep = ((("say", ONE),), ("when", ("int", 0), deep, EMPTY))
        closed = closed_of(((0, (), deep),))
        self.assertEqual(run_closed(closed, 5000), ("done", 1, (1,) * many))
        chain = [(0, () if k == 0 else (INT,), ((("fun", k + 1),), ("jump", name(2 * k), (), (ONE,)))) for k in range(300)] + [(0, (INT,), ((), ("halt", name(599))))]
        self.assertIsNone(turns_judged(tuple(chain)))
        self.assertIsNone(closed_judged(closed_of(tuple(chain))))
        self.assertLess(time.time() - begun, 20)

    def test_many_beats(self):
        program = to_turns(to_core(source_told("fun f ( n ) = if n then 1 + f ( n - 1 ) else 0 in f ( 5000 )")))
        closed = closed_of(program)
        self.assertEqual(run_closed(closed, 20000), ("done", 5000, ()))
        for k in (100, 9999):
            self.assertEqual(run_closed(closed, k), run_turns(program, k))

    def test_faces(self):
        """Two makings of a face that do alike tell alike."""
        pack = ("some", ("row", (VAR, ("to", 0, (VAR,), INT), ("to", 0, (VAR,), VAR))))
        lines = []
        for hide in [("hide", INT, ("row", (("int", 0), ("fun", 0, (INT,), INT, name(1)), ("fun", 0, (INT,), INT, ("sum", "add", name(1), ONE)))), pack),
                     ("hide", ("row", (INT, INT)), ("row", (("row", (("int", 5), ("int", 5))), ("fun", 0, (("row", (INT, INT)),), INT, ("sum", "take", ("part", name(1), 0), ("part", name(1), 1))),
                      ("fun", 0, (("row", (INT, INT)),), ("row", (INT, INT)), ("row", (("part", name(1), 0), ("sum", "take", ("part", name(1), 1), ONE)))))), pack)]:
            def use(k, thing):
                return ("call", ("part", name(0), k), (), (thing,))

            two = use(2, use(2, ("part", name(0), 0)))
            core = ("open", hide, ("let", ("say", use(1, two)), use(1, use(2, ("part", name(0), 0)))))
            closed = closed_of(to_turns(core))
            lines.append([run_closed(closed, k) for k in range(30)])
        self.assertEqual(lines[0], lines[1])
        self.assertEqual(lines[0][-1], ("done", 1, (2,)))

    def test_errors(self):
        for value in STRANGE:
            self.fails(IllKinded, "place", (), closed_of, value)
        self.fails(IllKinded, "place", (0, 2, 0, 0), closed_of, (start(("get", ONE)),))


if __name__ == "__main__":
    unittest.main()
