import random
import time
import unittest

from kindscarried.core import evaluated, is_done
from kindscarried.core_looker import core_judged, core_kind
from kindscarried.core_machine import Machine
from kindscarried.core_steps import run_steps, stepped
from kindscarried.errors import IllKinded, InvalidCount, Stuck, TooMany
from kindscarried.source_texts import source_told
from kindscarried.to_core import to_core
from tests.common import STRANGE, Case, nested
from tests.random_core import LIST, PACK, SAME, CoreMaker

INT = ("int",)
UNIT = ("row", ())
ONE = ("int", 1)
TWO = ("int", 2)
VAR = ("var", 0)
F = ("fun", 0, (INT,), INT, ("name", 1))
ADD = ("sum", "add", ONE, TWO)
SOURCE_LIST = "data list ( a ) = Nil | Cons ( a , list ( a ) ) ; "


def name(k):
    return ("name", k)


def part_at(term, place):
    for index in place:
        term = term[index]
    return term


def next_place(term):
    """The place of the term that gives way next, told by evaluated and is_done alone; None if the term is done."""
    if is_done(term):
        return None
    for place in evaluated(term):
        if not is_done(part_at(term, place)):
            return place + next_place(part_at(term, place))
    return ()


def run_by_steps(program, beats):
    """The outcome by stepped, step by step; ("many",) for TooMany."""
    state = (program, (), ())
    while True:
        place = next_place(state[0])
        if place is None:
            return ("done", state[0][1], state[2])
        if part_at(state[0], place)[0] == "call":
            if beats == 0:
                return ("spent", state[2])
            beats -= 1
        try:
            state = stepped(state)
        except TooMany:
            return ("many",)


def sizes_by_steps(program, most_steps):
    """(outcome without bounds or None, rows (parts, depth) of the next term of each step), by stepped alone."""
    state = (program, (), ())
    rows = []
    while next_place(state[0]) is not None:
        if len(rows) == most_steps:
            return None, rows
        state = stepped(state)
        rows.append((parts(state[0]), depth(state[0])))
    return ("done", state[0][1], state[2]), rows


def parts(value):
    inner = sum(parts(member) for member in value if isinstance(member, tuple))
    return inner + int(bool(value) and isinstance(value[0], str))


def depth(value):
    inner = max([0] + [depth(member) for member in value if isinstance(member, tuple)])
    return inner + int(bool(value) and isinstance(value[0], str))


def run(program, beats):
    try:
        return run_steps(program, beats)
    except TooMany as error:
        assert error.count == 6000
        return ("many",)


def growing(seed):
    """A program in whose first steps a thing or a kind is put in, perhaps several times; None if there is no such thing."""
    maker = CoreMaker(seed)
    rng = maker.rng
    kind = rng.choice((PACK, LIST, ("row", (INT, INT)), ("cell", INT), ("to", 0, (INT,), INT), SAME, ("row", (PACK, LIST)), maker.kind(0)))
    term = maker.term(kind, 0, (), rng.choice((2, 5, 8)))
    if term is None:
        return None
    many = rng.randrange(1, 5)

    def row(number):
        return ("row", (name(number),) * many)

    def rest(*names, free=0):
        return maker.term(INT, free, names, rng.choice((0, 0, 4)))

    row_kind = ("row", (kind,) * many)
    free_row = ("row", (("free", 0),) * many)
    sort = rng.randrange(9)
    if sort == 0:
        return ("let", term, ("let", row(0), rest(kind, row_kind)))
    if sort == 1:
        own = ("to", 1, (VAR,), INT)
        kept = ("fun", 0, (free_row,), ("cell", ("free", 0)), ("cell", name(1)))
        return ("call", ("fun", 1, (VAR,), INT, ("let", kept, rest(own, ("free", 0), ("to", 0, (free_row,), ("cell", ("free", 0))), free=1))),
                (kind,), (term,))
    if sort == 2:
        return ("match", ("tag", 1, ("one", (INT, kind)), term), (name(0), ("let", row(0), rest(kind, row_kind))))
    if sort == 3:
        inner = ("fun", 0, (INT,), INT, ("let", row(0), name(2)))
        return ("let", term, ("let", inner, ("call", name(1), (), (rest(kind, ("to", 0, (INT,), INT)),))))
    if sort == 4:
        return ("let", ("cell", term), ("let", ("row", (("get", name(0)),) * many), rest(("cell", kind), row_kind)))
    if sort == 5:
        return ("let", ("fold", ("rec", ("row", (kind, kind))), ("row", (term, term))),
                ("let", ("row", (("unfold", name(0)),) * many), ONE))
    if sort == 6:
        pack = ("some", ("row", (VAR, VAR)))
        again = ("hide", ("cell", ("free", 0)), ("row", (("cell", ("part", name(0), 0)), ("cell", ("part", name(0), 1)))), pack)
        return ("open", ("hide", kind, ("row", (term, term)), pack), ("let", again, rest(("row", (("free", 0),) * 2), pack, free=1)))
    if sort == 7:
        two = ("fun", 2, (VAR, ("var", 1)), INT, ("let", ("row", (name(2), name(1), name(2))), ("let", ("fun", 1, (("free", 0),), ("free", 1), name(2)), ONE)))
        return ("call", two, (kind, row_kind), (term, ("row", (term,) * many)))
    loop = ("fun", 0, (INT, kind), INT, ("when", name(1), rest(("to", 0, (INT, kind), INT), INT, kind),
            ("let", row(2), ("call", name(0), (), (("sum", "take", name(1), ONE), ("part", name(3), many - 1))))))
    return ("call", loop, (), (("int", rng.randrange(3)), term))


class Steps(Case):
    def gives(self, term, wanted, cells=(), letters=(), new_cells=None, new_letters=None):
        state = (term, cells, letters)
        told = (wanted, cells if new_cells is None else new_cells, letters if new_letters is None else new_letters)
        self.assertEqual(stepped(state), told)
        self.assertEqual(stepped(state=state), told)
        self.assertEqual(state, (term, cells, letters))
        # As what is evaluated first in something else, too, with done terms ahead of it.
        self.assertEqual(stepped((("row", (ONE, term, ADD)),) + state[1:]), (("row", (ONE, wanted, ADD)),) + told[1:])
        self.assertEqual(stepped((("fold", LIST, ("call", ADD[2], (), (term,))),) + state[1:])[0], ("fold", LIST, ("call", ONE, (), (wanted,))))

    def test_sums(self):
        for word, wanted in [("add", 5), ("take", 1), ("times", 6), ("less", 0), ("same", 0)]:
            self.gives(("sum", word, ("int", 3), TWO), ("int", wanted))
        self.gives(("sum", "add", ("int", 2 ** 31 - 1), ONE), ("int", -2 ** 31))
        self.gives(("sum", "take", ("int", -2 ** 31), ONE), ("int", 2 ** 31 - 1))
        self.gives(("sum", "times", ("int", 2 ** 16), ("int", 2 ** 15)), ("int", -2 ** 31))
        self.gives(("sum", "same", TWO, TWO), ONE)
        self.gives(("sum", "less", ONE, TWO), ONE)

    def test_whens_and_lets(self):
        self.gives(("when", ("int", 0), ONE, UNIT), ONE)
        self.gives(("when", ("int", -1), ONE, ADD), ADD)
        self.gives(("let", TWO, ("row", (name(0), ("let", name(0), name(1))))), ("row", (TWO, ("let", TWO, name(0)))))
        self.gives(("let", F, ("let", ONE, name(0))), ("let", ONE, ("fun", 0, (INT,), INT, name(2))))

    def test_calls(self):
        loop = ("fun", 0, (INT, INT), INT, ("call", name(0), (), (name(2), name(1))))
        self.gives(("call", loop, (), (ONE, TWO)), ("call", loop, (), (TWO, ONE)))
        pair = ("fun", 1, (VAR,), ("cell", VAR), ("fold", ("rec", ("row", (("free", 0),))), ("hide", ("free", 0), name(1), PACK)))
        self.gives(("call", pair, (UNIT,), (ONE,)), ("fold", ("rec", ("row", (UNIT,))), ("hide", UNIT, ONE, PACK)))
        self.gives(("call", ("fun", 0, (), INT, ADD), (), ()), ADD)

    def test_rows_tags_folds(self):
        one = ("one", (INT, INT))
        self.gives(("part", ("row", (ONE, TWO)), 1), TWO)
        self.gives(("unfold", ("fold", LIST, UNIT)), UNIT)
        self.gives(("match", ("tag", 1, one, TWO), (ONE, ("sum", "add", name(0), name(0)))), ("sum", "add", TWO, TWO))
        self.gives(("open", ("hide", INT, TWO, ("some", VAR)), ("hide", ("free", 0), name(0), ("some", ("free", 0)))),
                   ("hide", INT, TWO, ("some", INT)))

    def test_cells(self):
        self.gives(("cell", TWO), ("spot", 0), (), (), (TWO,))
        self.gives(("cell", TWO), ("spot", 2), (ONE, F), (), (ONE, F, TWO))
        self.gives(("get", ("spot", 1)), F, (ONE, F))
        self.gives(("set", ("spot", 0), UNIT), UNIT, (ONE, F), (), (UNIT, F))
        self.gives(("set", ("spot", 1), UNIT), UNIT, (ONE, F, ONE), (7,), (ONE, UNIT, ONE))

    def test_says(self):
        self.gives(("say", TWO), UNIT, (), (), (), (2,))
        self.gives(("say", ("int", -1)), UNIT, (ONE,), (5, 5), (ONE,), (5, 5, -1))

    def test_done_terms(self):
        for term in (ONE, F, ("spot", 3), UNIT, ("row", (ONE, F)), ("tag", 0, ("one", (INT,)), ONE), ("fold", LIST, UNIT), ("hide", INT, ONE, PACK),
                     ("fun", 0, (), INT, ADD), ("row", (("row", (("fold", LIST, ("hide", INT, F, PACK)),)),))):
            self.assertIsNone(stepped((term, (), ())))
            self.assertIsNone(stepped((term, (ONE,), (1, 2))))

    def test_from_left_to_right_and_from_the_inside_out(self):
        term = ("row", (ONE, ("call", ("let", ONE, ("fun", 0, (INT,), INT, name(2))), (), (ADD,)), ADD))
        for wanted in [("row", (ONE, ("call", F, (), (ADD,)), ADD)), ("row", (ONE, ("call", F, (), (("int", 3),)), ADD)),
                       ("row", (ONE, ("int", 3), ADD)), ("row", (ONE, ("int", 3), ("int", 3)))]:
            term = stepped((term, (), ()))[0]
            self.assertEqual(term, wanted)
        self.assertEqual(stepped((("sum", "add", ADD, ADD), (), ()))[0], ("sum", "add", ("int", 3), ADD))
        self.assertEqual(stepped((("set", ("cell", ADD), ADD), (), ()))[0], ("set", ("cell", ("int", 3)), ADD))
        self.assertEqual(stepped((("set", ("cell", ONE), ADD), (), ())), (("set", ("spot", 0), ADD), (ONE,), ()))
        for around in (lambda t: ("when", t, ADD, ADD), lambda t: ("let", t, ADD), lambda t: ("part", t, 0), lambda t: ("tag", 0, LIST, t),
                       lambda t: ("match", t, (ADD,)), lambda t: ("cell", t), lambda t: ("get", t), lambda t: ("fold", LIST, t),
                       lambda t: ("unfold", t), lambda t: ("hide", INT, t, PACK), lambda t: ("open", t, ADD), lambda t: ("say", t)):
            self.assertEqual(stepped((around(ADD), (), ())), (around(("int", 3)), (), ()))

    def test_nothing_in_branches_and_bodies_is_evaluated(self):
        wrong = ("say", UNIT)
        self.assertEqual(stepped((("when", ONE, wrong, ADD), (), ()))[0], ADD)
        self.assertEqual(stepped((("match", ("tag", 1, ("one", (INT, INT)), ONE), (wrong, ADD)), (), ()))[0], ADD)
        self.assertIsNone(stepped((("fun", 0, (), INT, wrong), (), ())))


class Stucks(Case):
    def stuck(self, term, cells=()):
        self.fails(Stuck, "place", (), stepped, (term, cells, ()))
        self.fails(Stuck, "place", (1, 1, 2), stepped, (("row", (ONE, ("fold", LIST, term), term)), cells, (1,)))
        self.fails(Stuck, "place", (3, 0), stepped, (("call", ONE, (), (term,)), cells, ()))

    def test_each_form(self):
        one = ("one", (INT, INT))
        for term in [("sum", "add", UNIT, ONE), ("sum", "less", ONE, F), ("sum", "same", ("spot", 0), ("spot", 0)), ("when", UNIT, ONE, ONE),
                     ("call", ONE, (), ()), ("call", ("int", 0), (), ()), ("call", ("spot", 0), (), ()), ("call", F, (), ()), ("call", F, (), (ONE, ONE)), ("call", F, (INT,), (ONE,)),
                     ("call", ("fun", 1, (), INT, ONE), (), ()), ("part", ONE, 0), ("part", UNIT, 0), ("part", ("row", (ONE,)), 1),
                     ("part", ("tag", 0, one, ONE), 0), ("match", ONE, (ONE,)), ("match", ("tag", 1, one, ONE), (ONE,)), ("match", ("tag", 0, one, ONE), ()),
                     ("match", ("fold", LIST, ("tag", 0, one, ONE)), (ONE, ONE)), ("get", ONE), ("get", ("spot", 1)), ("get", ("row", (ONE,))),
                     ("set", ONE, ONE), ("set", ("spot", 1), ONE), ("unfold", ONE), ("unfold", ("hide", INT, ONE, PACK)), ("open", ONE, ONE),
                     ("open", ("fold", LIST, ONE), ONE), ("say", UNIT), ("say", ("spot", 0))]:
            self.stuck(term, (ONE,))
        self.stuck(("get", ("spot", 0)))
        self.stuck(("set", ("spot", 0), ONE))
        self.stuck(("get", ("spot", 10 ** 9)), (ONE, ONE))

    def test_what_is_first(self):
        self.fails(Stuck, "place", (2,), stepped, (("sum", "add", ("say", UNIT), ("say", F)), (), ()))
        self.assertEqual(stepped((("sum", "add", UNIT, ADD), (), ()))[0], ("sum", "add", UNIT, ("int", 3)))


class Bounds(Case):
    def many(self, term, cells=()):
        self.fails(TooMany, "count", 6000, stepped, (term, cells, ()))

    def wide(self, parts):
        """A done row of so many parts, at least 100."""
        rows, left = divmod(parts - 1, 50)
        return ("row", (("row", (ONE,) * 49),) * rows + (ONE,) * left)

    def deep(self, many):
        return nested("say", many - 1, ONE)

    def test_parts_of_terms(self):
        # The whole is a row of the next int and of the rest.
        self.assertEqual(stepped((("row", (ADD, self.wide(5998))), (), ()))[0], ("row", (("int", 3), self.wide(5998))))
        self.many(("row", (ADD, self.wide(5999))))
        self.assertEqual(stepped((("row", (("when", ONE, ONE, ADD), self.wide(5996))), (), ()))[0], ("row", (ADD, self.wide(5996))))
        self.many(("row", (("when", ONE, ONE, ADD), self.wide(5997))))

    def test_what_is_evaluated_no_more_does_not_count(self):
        self.assertEqual(stepped((("when", ("int", 0), ONE, self.wide(7000)), (), ()))[0], ONE)
        self.assertEqual(stepped((("part", ("row", (self.wide(7000), ONE)), 1), (), ()))[0], ONE)
        self.assertEqual(stepped((("cell", self.wide(7000)), (), ()))[0], ("spot", 0))
        self.many(("get", ("spot", 0)), (self.wide(6001),))
        self.assertEqual(stepped((("get", ("spot", 0)), (self.wide(6000),), ()))[0], self.wide(6000))

    def test_parts_that_are_put_in(self):
        body = ("row", (name(0), name(0)))
        self.assertEqual(stepped((("let", self.wide(2999), body), (), ()))[0], ("row", (self.wide(2999),) * 2))
        many = ("let", self.wide(3000), body)
        self.many(many)
        self.many(("let", self.wide(3000), ("row", (name(0),) * 300)))
        function = ("fun", 0, (INT,), INT, ("row", (name(0),) * 400))
        self.many(("let", function, ("row", (name(0),) * 20)))

    def test_parts_of_kinds(self):
        kind = ("row", (INT,) * 99)
        # fold, its kind of 101 parts, what is in it.
        term = ("row", (ADD, self.wide(5895), ("fold", ("rec", kind), ONE)))
        self.assertEqual(stepped((term, (), ()))[0][1][0], ("int", 3))
        self.many(("row", (ADD, self.wide(5896), ("fold", ("rec", kind), ONE))))
        for member, parts in [(("fun", 0, (kind, INT), kind, ONE), 203), (("call", F, (kind, kind), ()), 205),
                              (("tag", 0, ("one", (kind,)), ONE), 103), (("hide", kind, ONE, ("some", kind)), 203), (("fun", 2, (VAR,), VAR, ONE), 4)]:
            self.assertEqual(stepped((("row", (ADD, self.wide(5998 - parts), member)), (), ()))[0][1][0], ("int", 3))
            self.many(("row", (ADD, self.wide(5999 - parts), member)))

    def test_kinds_that_are_put_in(self):
        kind = ("row", (INT,) * 99)
        function = ("fun", 1, (), INT, ("row", tuple(("fold", ("free", 0), ONE) for _ in range(58))))
        self.assertEqual(len(stepped((("call", function, (kind,), ()), (), ()))[0][1]), 58)
        function = ("fun", 1, (), INT, ("row", tuple(("fold", ("free", 0), ONE) for _ in range(59))))
        self.many(("call", function, (kind,), ()))

    def test_depth(self):
        self.assertEqual(stepped((nested("say", 99, ADD), (), ()))[0], nested("say", 99, ("int", 3)))
        self.many(nested("say", 100, ADD))
        self.assertEqual(stepped((("row", (ADD, ("fun", 0, (), INT, self.deep(98)))), (), ()))[0][1][0], ("int", 3))
        self.many(("row", (ADD, ("fun", 0, (), INT, self.deep(99)))))
        self.assertEqual(stepped((("let", ONE, self.deep(100)), (), ()))[0], self.deep(100))
        self.many(("let", ONE, self.deep(101)))

    def test_depth_of_kinds(self):
        for around in (lambda k: ("fold", k, ONE), lambda k: ("fun", 0, (k,), INT, ONE), lambda k: ("fun", 0, (), k, ONE),
                       lambda k: ("hide", k, ONE, PACK), lambda k: ("hide", INT, ONE, k), lambda k: ("tag", 0, k, ONE)):
            right, wrong = around(nested("cell", 39, INT)), around(nested("cell", 40, INT))
            self.assertEqual(stepped((("let", ONE, nested("say", 59, right)), (), ()))[0], nested("say", 59, right))
            self.many(("let", ONE, nested("say", 59, wrong)))
            self.many(("let", ONE, nested("say", 60, right)))

    def test_depth_that_is_put_in(self):
        thing = ("row", ())
        for _ in range(49):
            thing = ("row", (thing,))
        self.assertEqual(stepped((("let", thing, nested("say", 50, name(0))), (), ()))[0], nested("say", 50, thing))
        self.many(("let", thing, nested("say", 51, name(0))))


class RunSteps(Case):
    def test_example(self):
        loop = ("fun", 0, (INT,), INT, ("let", ("say", name(1)), ("when", name(1), ("int", 5),
                ("call", name(0), (), (("sum", "take", name(1), ONE),)))))
        program = ("call", loop, (), (TWO,))
        self.assertEqual([run_steps(program, 3), run_steps(program, 2)], [("done", 5, (2, 1, 0)), ("spent", (2, 1))])
        self.assertEqual([run_steps(program=program, beats=k) for k in (0, 1, 4, 20000)],
                         [("spent", ()), ("spent", (2,)), ("done", 5, (2, 1, 0)), ("done", 5, (2, 1, 0))])

    def test_errors(self):
        for value in STRANGE:
            self.fails(IllKinded, "place", (), run_steps, value, 5)
            self.fails(IllKinded, "place", (), run_steps, value, -1)
        self.fails(IllKinded, "place", (3,), run_steps, ("sum", "add", ONE, ("sum", "add", ONE, UNIT)), -1)
        self.fails(IllKinded, "place", (), run_steps, ("spot", 0), 0)
        for beats in (-1, True, None, "1", (), -10 ** 89, 1.5):
            self.fails(InvalidCount, None, None, run_steps, ONE, beats)

    def test_spent_ahead_of_what_would_be_told_of_the_call(self):
        wide = ("row", (ONE,) * 150)
        function = ("fun", 0, (("row", (INT,) * 150),), INT, ("part", ("row", tuple(("part", name(1), 0) for _ in range(60))), 0))
        program = ("call", function, (), (wide,))
        self.assertIsNone(core_judged(program))
        self.assertEqual(run_steps(program, 0), ("spent", ()))
        self.fails(TooMany, "count", 6000, run_steps, program, 1)
        self.assertEqual(run_by_steps(program, 1), ("many",))

    def test_as_step_by_step(self):
        for seed in range(150):
            program = CoreMaker(seed).program((10, 25, 60)[seed % 3])
            for beats in (0, 1, 2, 7, 30):
                self.assertEqual(run(program, beats), run_by_steps(program, beats))

    GROWING = (
        # A sum that grows by one at each call, a row in a row, a list, a function of a function, cells, polymorphic ones.
        "fun f ( n ) = say n ; 1 + f ( n - 1 ) in f ( 5 )",
        "fun f ( n ) = if n then say n ; f ( n - 1 ) + f ( n - 1 ) else 0 in f ( 4 )",
        SOURCE_LIST + "fun f ( n , l ) = say n ; f ( n + 1 , Cons ( n , l ) ) in f ( 0 , Nil )",
        SOURCE_LIST + "fun f ( n ) = if n then Cons ( n , f ( n - 1 ) ) else Nil in match f ( 40 ) { Nil -> 0 | Cons ( x , r ) -> x }",
        "data n = O | S ( n , n , n ) ; fun f ( k , x ) = say k ; f ( k + 1 , S ( x , x , x ) ) in f ( 0 , O )",
        "data t = T ( fn ( int ) int ) ; fun f ( k , x ) = say k ; f ( k + 1 , T ( fn ( y ) match x { T ( g ) -> g ( g ( y ) ) } ) ) in f ( 0 , T ( fn ( y ) y + 1 ) )",
        "let c = cell ( fn ( ) 0 ) in fun f ( k ) = say k ; let g = get c in c := ( fn ( ) g ( ) + g ( ) ) ; if 1 - ( k = 12 ) then f ( k + 1 ) else ( get c ) ( ) in f ( 0 )",
        "fun p ( x ) = ( x , x ) in let a = p ( p ( p ( p ( 1 ) ) ) ) in fun f ( x , k ) = say k ; f ( ( a , a ) , k + 1 ) in f ( ( a , a ) , 0 )",
        "fun id ( x ) = x in let f = id in let g = id in f ( g ( 3 ) ) + id ( id ) ( 4 )",
    )

    def test_growing_programs_as_step_by_step(self):
        told = {}
        for text in self.GROWING:
            program = to_core(source_told(text))
            last = None
            for beats in list(range(0, 60, 3)) + [120, 200]:
                wanted = run_by_steps(program, beats)
                self.assertEqual(run(program, beats), wanted, (text, beats))
                told[wanted[0]] = told.get(wanted[0], 0) + 1
                if wanted == ("many",) or wanted == last:
                    break
                last = wanted
        self.assertGreaterEqual(told["many"], 5)

    def test_growing_kinds_as_step_by_step(self):
        # A function that hands itself ever greater kinds: they count where they stand, in the calls and funs.
        function = ("fun", 1, (VAR,), INT, ("let", ("say", ONE), ("call", name(0), (("row", (("free", 0), ("free", 0))),),
                    (("row", (name(1), name(1))),))))
        program = ("call", function, (INT,), (ONE,))
        self.assertIsNone(core_judged(program))
        for beats in range(20):
            self.assertEqual(run(program, beats), run_by_steps(program, beats))
        self.assertEqual(run(program, 20), ("many",))
        hide = ("fun", 0, (PACK,), INT, ("open", name(1), ("let", ("say", ONE), ("call", name(0), (), (("hide", ("cell", ("free", 0)), ("row", (
            ("cell", ("part", name(2), 0)), ("fun", 0, (("cell", ("free", 0)),), INT, TWO))), PACK),)))))
        start = ("hide", INT, ("row", (ONE, ("fun", 0, (INT,), INT, name(1)))), PACK)
        program = ("call", hide, (), (start,))
        self.assertIsNone(core_judged(program))
        for beats in list(range(0, 110, 7)):
            self.assertEqual(run(program, beats), run_by_steps(program, beats))
        self.assertEqual(run(program, 20000), ("many",))

    def test_bounds_are_met_exactly(self):
        """Rows of growing size around a sum: run_steps and stepped tell TooMany at the same size."""
        for many in range(29, 40):
            row = ("row", (ONE,) * 150)
            program = ("part", ("row", (("sum", "add", ONE, ONE),) + (ONE,) * 100), 0)
            for _ in range(many):
                program = ("let", row, program)
            program = ("part", ("row", (program, ("part", row, 0))), 0)
            self.assertIsNone(core_judged(program))
            self.assertEqual(run(program, 0), run_by_steps(program, 0), many)

    def sizes(self, program, most_steps):
        """With the greatest size that the steps come to as its bound the machine goes through, with one less it does not."""
        try:
            outcome, rows = sizes_by_steps(program, most_steps)
        except TooMany:
            return 0
        if outcome is None or not rows:
            return 0
        most_parts, most_deep = max(row[0] for row in rows), max(row[1] for row in rows)
        self.assertEqual(Machine(program, 1000, most_parts, most_deep).outcome(), outcome, program)
        self.fails(TooMany, "count", most_parts - 1, Machine(program, 1000, most_parts - 1, most_deep).outcome)
        self.fails(TooMany, "count", most_parts, Machine(program, 1000, most_parts, most_deep - 1).outcome)
        return 1

    def test_sizes_of_what_is_put_in(self):
        done = 0
        for seed in range(700):
            program = growing(seed)
            if program is not None:
                self.assertIsNone(core_judged(program), program)
                done += self.sizes(program, 60)
        self.assertGreater(done, 400)

    def test_sizes_of_random_programs(self):
        done = 0
        for seed in range(150):
            done += self.sizes(CoreMaker(seed).program((5, 10, 25)[seed % 3]), 60)
        self.assertGreater(done, 60)

    def test_sizes_of_core_of_source_programs(self):
        texts = ["fun f ( n ) = if n then 1 + f ( n - 1 ) else 0 in f ( 5 )", "fun p ( x ) = ( x , x ) in let a = p ( p ( p ( 1 ) ) ) in 2",
                 "let c = cell ( fn ( ) 0 ) in c := ( fn ( ) say 3 ; 1 ) ; ( get c ) ( ) + ( get c ) ( )",
                 SOURCE_LIST + "fun f ( n ) = if n then Cons ( n , f ( n - 1 ) ) else Nil in match f ( 4 ) { Nil -> 0 | Cons ( x , r ) -> x }",
                 SOURCE_LIST + "fun f ( n , l ) = if n then f ( n - 1 , Cons ( n , l ) ) else l in match f ( 4 , Nil ) { Nil -> 0 | Cons ( x , r ) -> x }"]
        for text in texts:
            self.assertEqual(self.sizes(to_core(source_told(text)), 500), 1)

    def test_many_beats(self):
        start = time.time()
        program = to_core(source_told("fun f ( n ) = if n then f ( n - 1 ) else 7 in f ( 19999 )"))
        self.assertEqual(run_steps(program, 20000), ("done", 7, ()))
        self.assertEqual(run_steps(program, 19999), ("spent", ()))
        program = to_core(source_told("fun f ( n ) = say n ; f ( n + 1 ) in f ( 0 )"))
        self.assertEqual(run_steps(program, 20000), ("spent", tuple(range(20000))))
        rows = ("row", (ONE,) * 60)
        body = ("when", name(1), ("int", 5), ("let", ("part", ("row", (rows,) * 3), 0), ("call", name(0), (), (("sum", "take", name(1), ONE),))))
        program = ("call", ("fun", 0, (INT,), INT, body), (), (("int", 500),))
        self.assertEqual(run_steps(program, 20000), ("done", 5, ()))
        self.assertLess(time.time() - start, 20)


class Facts(Case):
    def test_kept_by_each_step(self):
        """Fact C2: never stuck, and of the same kind, over the same spots and perhaps one more."""
        steps = 0
        for seed in range(120):
            state, spots = (CoreMaker(seed).program(40), (), ()), ()
            for _ in range(40):
                try:
                    following = stepped(state)
                except TooMany:
                    break
                if following is None:
                    self.assertTrue(is_done(state[0]))
                    break
                if len(following[1]) > len(state[1]):
                    spots += (core_kind(0, (), following[1][-1], spots),)
                self.assertEqual(len(following[1]), len(spots))
                self.assertEqual(core_kind(0, (), following[0], spots), INT)
                for cell, kind in zip(following[1], spots):
                    self.assertEqual(core_kind(0, (), cell, spots), kind)
                state = following
                steps += 1
        self.assertGreater(steps, 1000)


if __name__ == "__main__":
    unittest.main()
