import random
import unittest

from kindscarried.errors import CarriedError
from kindscarried.finding import found
from kindscarried.finding_judge import is_finding
from kindscarried.source import is_source
from kindscarried.source_texts import source_told
from tests.common import STRANGE, Case, nested
from tests.random_programs import Maker

INT = ("int",)
NOTHING = ("row", ())
A, B = ("free", 0), ("free", 1)
LIST = "data list ( a ) = Nil | Cons ( a , list ( a ) ) ; "
# At least one of each form of terms and of each kind of binder.
TEXTS = (
    "1 + 2 * 3", "if 1 then 2 else 3", "let x = ( 1 , ( ) ) in let ( y , z ) = x in z ; y", "let ( ) = ( ) in 1",
    "fun f ( x , y ) = ( y , x ) in let ( a , b ) = f ( 1 , ( ) ) in a ; b", "fun f ( x ) = x in let g = f in g ( f ( 1 ) )",
    "fun f ( x ) = fun g ( y ) = ( x , y ) in let ( a , b ) = g ( g ( x ) ) in a in f ( 1 )", "( fn ( x ) fn ( y ) x ) ( 1 ) ( 2 )",
    "let c = cell 1 in c := get c + 1 ; say get c ; get c", "let f = fn ( x , y ) x in let g = fn ( ) cell f in 3",
    "fun f ( n ) = if n then f ( n - 1 ) else 0 in f ( 3 )", LIST + "match Cons ( 1 , Nil ) { Nil -> 0 | Cons ( x , r ) -> x }",
    LIST + "fun map ( f , l ) = match l { Nil -> Nil | Cons ( x , r ) -> Cons ( f ( x ) , map ( f , r ) ) } in "
    "match map ( fn ( x ) ( x , 1 ) , Nil ) { Nil -> 0 | Cons ( p , r ) -> let ( a , b ) = p in b }",
)


def listed(kind):
    return ("data", "list", (kind,))


def put(kind, news):
    """The value with other kinds in the places of some."""
    if kind in news:
        return news[kind]
    return tuple(put(part, news) for part in kind) if isinstance(kind, tuple) else kind


class Findings(Case):
    def test_found_is_a_finding(self):
        for text in TEXTS:
            program = source_told(text)
            self.assertIs(is_finding(program, found(program)), True, text)
            self.assertIs(is_finding(program=program, value=found(program)), True)
        for seed in range(150):
            program = Maker(seed).program(25)
            if is_source(program):
                self.assertIs(is_finding(program, found(program)), True)

    def test_kinds_in_the_places_of_open_ones(self):
        program = source_told("let f = fn ( x , y ) x in let g = fn ( ) cell f in 3")
        finding = found(program)
        for kind in (INT, NOTHING, ("open", 5), ("cell", ("open", 0)), ("fun", (("open", 1),), INT), ("row", (INT,))):
            self.assertIs(is_finding(program, put(finding, {("open", 0): kind})), True)
            self.assertIs(is_finding(program, put(finding, {("open", 1): kind, ("open", 0): NOTHING})), True)
        for kind in self.NO_KINDS:
            self.assertIs(is_finding(program, put(finding, {("open", 0): kind})), False)
            for around in (("cell", kind), ("row", (INT, kind)), ("fun", (kind,), INT), ("fun", (), kind)):
                self.assertIs(is_finding(program, put(finding, {("open", 0): around})), False)
        program = source_told(LIST + "data one = One ; let f = fn ( x , y ) x in 3")
        finding = found(program)
        for kind in (listed(INT), listed(listed(("open", 9))), ("data", "one", ()), ("fun", (listed(("data", "one", ())),), ("row", (INT,)))):
            self.assertIs(is_finding(program, put(finding, {("open", 0): kind})), True)
        for kind in self.NO_KINDS + (("data", "list", ()), ("data", "list", (INT, INT)), ("data", "one", (INT,)), ("data", "two", ()),
                                     ("data", ["one"], ()), ("data", "one", []), ("data", "one"), ("data", ("one",), ()), ("data", None, ()),
                                     ("data", "list", [INT]), ("data", "list", INT), ("data", "one", (), ())):
            for around in (kind, listed(kind), ("cell", kind), ("row", (kind,))):
                self.assertIs(is_finding(program, put(finding, {("open", 0): around})), False)

    NO_KINDS = (("free", 0), ("open", -1), ("data", "d", ()), ("var", 0), ("to", 0, (), INT), [], None, ("open", True), (), ("int", 0), ("int", ()),
                ("row",), ("row", [INT]), ("row", INT), ("row", (INT,), ()), ("row", None), ("cell",), ("cell", INT, INT), ("fun", (INT,)),
                ("fun", [INT], INT), ("fun", INT, INT), ("fun", (), INT, INT), ("open",), ("open", 0, 0), ("open", "0"), ("free", -1),
                ("free", True), ("some", INT), ("rec", INT), ["int"], "int", 5, (INT,), ("word", "x", ()), ("open", ()))

    def test_kinds_in_the_places_of_variables(self):
        program = source_told("fun f ( x ) = x in f ( 1 )")
        places = (((), INT), ((0,), A), ((1,), INT), ((1, 0), ("fun", (INT,), INT)), ((1, 1), INT))

        def told(n, kind, uses, body=A):
            return (put(places, {A: body}), (((), n, (kind,), body),), (((1, 0), uses),))
        self.assertIs(is_finding(program, told(1, A, (INT,))), True)
        self.assertIs(is_finding(program, told(0, INT, (), INT)), True)
        self.assertIs(is_finding(program, told(0, ("open", 0), (), ("open", 0))), False)
        self.assertIs(is_finding(program, told(2, A, (INT, NOTHING))), True)
        self.assertIs(is_finding(program, told(2, B, (NOTHING, INT), B)), True)
        self.assertIs(is_finding(program, told(2, B, (INT, NOTHING), B)), False)
        self.assertIs(is_finding(program, told(8, A, (INT,) + (("open", 3),) * 7)), True)
        self.assertIs(is_finding(program, told(9, A, (INT,) * 9)), False)
        self.assertIs(is_finding(program, told(1, A, (INT, INT))), False)
        self.assertIs(is_finding(program, told(1, A, ())), False)
        self.assertIs(is_finding(program, told(1, A, (A,))), False)
        self.assertIs(is_finding(program, told(1, B, (INT,), B)), False)
        self.assertIs(is_finding(program, told(0, A, ())), False)
        for n in (-1, True, False, None, "1", (1,), [1], 10 ** 89):
            self.assertIs(is_finding(program, told(n, A, (INT,))), False)

    def test_outer_variables_first(self):
        program = source_told("fun f ( x ) = fun g ( y ) = ( x , y ) in g ( 1 ) in 1")
        finding = found(program)
        self.assertEqual(finding[1], (((), 1, (A,), ("row", (A, INT))), ((0,), 1, (B,), ("row", (A, B)))))
        swapped = put(finding, {A: B, B: A})
        self.assertIs(is_finding(program, swapped), False)
        # A variable that then stands nowhere may be there all the same.
        self.assertIs(is_finding(program, put(finding, {A: INT})), True)
        self.assertIs(is_finding(program, put(finding, {B: INT})), True)
        self.assertIs(is_finding(program, (put(finding[0], {B: INT}),) + finding[1:]), False)

    def test_an_fn_has_no_variables(self):
        program = source_told("let g = fn ( x ) x in 1")
        finding = found(program)
        self.assertEqual(finding[1], (((0,), 0, (("open", 0),), ("open", 0)),))
        self.assertIs(is_finding(program, (finding[0], (((0,), 1, (("open", 0),), ("open", 0)),), ())), False)

    def test_bounds_of_unfit_are_left_aside(self):
        program = source_told("let g = fn ( x ) x in 1")
        finding = found(program)
        self.assertIs(is_finding(program, put(finding, {("open", 0): nested("cell", 25, INT)})), True)
        self.assertIs(is_finding(program, put(finding, {("open", 0): ("row", (INT,) * 300)})), True)
        great = source_told("let x = cell cell cell cell cell cell cell cell cell cell cell cell cell cell cell 1 in "
                            "let y = cell cell cell cell cell cell cell x in 1")
        kinds = {(): INT, (1,): INT, (1, 1): INT}
        for k in range(16):
            kinds[(0,) * (k + 1)] = nested("cell", 15 - k, INT)
        for k in range(8):
            kinds[(1, 0) + (0,) * k] = nested("cell", 22 - k, INT)
        self.assertIs(is_finding(great, (tuple(sorted(kinds.items())), (), ())), True)


class Changed(Case):
    """Findings with one thing changed are none."""

    OTHERS = (INT, NOTHING, ("open", 77), ("cell", INT), A, ("row", (INT, INT)), ("fun", (), INT), ("data", "list", (INT,)))

    def test_one_kind(self):
        for text in TEXTS:
            program = source_told(text)
            finding = found(program)
            for at, (place, kind) in enumerate(finding[0]):
                for other in self.OTHERS + (("cell", kind), None, [], True):
                    if other != kind:
                        rows = finding[0][:at] + ((place, other),) + finding[0][at + 1:]
                        self.assertIs(is_finding(program, (rows,) + finding[1:]), False, (text, place, other))
            for at, (place, n, kinds, kind) in enumerate(finding[1]):
                for other in self.OTHERS + (None, [], ()):
                    rows = []
                    if other != kind:
                        rows.append((place, n, kinds, other))
                    rows.extend((place, n, kinds[:k] + (other,) + kinds[k + 1:], kind) for k in range(len(kinds)) if other != kinds[k])
                    rows.append((place, n, kinds + (other,), kind))
                    rows.append((place, n, other, kind) if other != () or kinds else None)
                    for row in rows:
                        new = finding[1][:at] + (row,) + finding[1][at + 1:]
                        self.assertIs(is_finding(program, (finding[0], new, finding[2])), False, (text, row))
            for at, (place, kinds) in enumerate(finding[2]):
                for k in range(len(kinds)):
                    for other in self.OTHERS:
                        if other != kinds[k]:
                            row = (place, kinds[:k] + (other,) + kinds[k + 1:])
                            new = finding[2][:at] + (row,) + finding[2][at + 1:]
                            self.assertIs(is_finding(program, finding[:2] + (new,)), False, (text, row))

    def test_rows(self):
        for text in TEXTS:
            program = source_told(text)
            finding = found(program)
            for index in range(3):
                rows = finding[index]
                wrong = [list(rows), None, rows + (((9,), INT),), rows + (None,), (((),),) + rows, rows + rows[-1:]] if rows else [[], None, ((),)]
                for at in range(len(rows)):
                    row = rows[at]
                    wrong.append(rows[:at] + rows[at + 1:])
                    wrong.append(rows[:at] + (list(row),) + rows[at + 1:])
                    wrong.append(rows[:at] + (row + (INT,),) + rows[at + 1:])
                    wrong.append(rows[:at] + (row[:-1],) + rows[at + 1:])
                    wrong.append(rows[:at] + ((row[0] + (0,),) + row[1:],) + rows[at + 1:])
                    wrong.append(rows[:at] + ((list(row[0]),) + row[1:],) + rows[at + 1:])
                    if row[0]:
                        wrong.append(rows[:at] + ((tuple(bool(k) if k < 2 else str(k) for k in row[0]),) + row[1:],) + rows[at + 1:])
                    if at:
                        wrong.append(rows[:at - 1] + (row, rows[at - 1]) + rows[at + 1:])
                for new in wrong:
                    self.assertIs(is_finding(program, finding[:index] + (new,) + finding[index + 1:]), False, (text, new))

    def test_one_number(self):
        for text in TEXTS:
            program = source_told(text)
            finding = found(program)
            for at, (place, n, kinds, kind) in enumerate(finding[1]):
                for other in (n + 1, n - 1, None, bool(n), (n,)):
                    new = finding[1][:at] + ((place, other, kinds, kind),) + finding[1][at + 1:]
                    self.assertIs(is_finding(program, (finding[0], new, finding[2])), False, (text, new))

    def test_values_of_any_sort(self):
        program = source_told(TEXTS[5])
        finding = found(program)
        for value in STRANGE + (finding[:2], finding + ((),), list(finding), ((), (), ()), (finding,), {}, finding[0]):
            self.assertIs(is_finding(program, value), False)
        for strange in STRANGE:
            for index in range(3):
                self.assertIs(is_finding(program, finding[:index] + (strange,) + finding[index + 1:]), False)

    def test_words(self):
        for text in ("x", "fn ( x , x ) 1", "data d = A | A ; 1", "data d = A ( e ) ; 1", "A"):
            program = source_told(text)
            self.assertIs(is_finding(program, ((((), INT),), (), ())), False)
        self.assertIs(is_finding(source_told("1"), ((((), INT),), (), ())), True)
        self.assertIs(is_finding(source_told("data d = A ( d ) ; 1"), ((((), INT),), (), ())), True)

    def test_the_whole_is_int(self):
        self.assertIs(is_finding(source_told("( )"), ((((), NOTHING),), (), ())), False)

    def test_clashes_have_no_finding(self):
        self.assertIs(is_finding(source_told("1 + ( )"), ((((), INT), ((0,), INT), ((1,), NOTHING)), (), ())), False)
        self.assertIs(is_finding(source_told("1 + ( )"), ((((), INT), ((0,), INT), ((1,), INT)), (), ())), False)


class Rules(Case):
    """For each rule a value in which this rule alone does not hold."""

    def wrong(self, text, kinds, funs=(), uses=()):
        program = source_told(text)
        self.assertIs(is_finding(program, (tuple(sorted(kinds.items())), funs, uses)), False)

    def right(self, text, kinds, funs=(), uses=()):
        program = source_told(text)
        self.assertIs(is_finding(program, (tuple(sorted(kinds.items())), funs, uses)), True)

    def test_generalised_too_far(self):
        # The own variable would be that of a word around: it can not be told there.
        text = "let g = fn ( x ) fun f ( y ) = x in f ( 1 ) in 1"
        kinds = {(): INT, (0,): ("fun", (INT,), INT), (0, 0): INT, (0, 0, 0): INT, (0, 0, 1): INT,
                 (0, 0, 1, 0): ("fun", (INT,), INT), (0, 0, 1, 1): INT, (1,): INT}
        self.right(text, kinds, (((0,), 0, (INT,), INT), ((0, 0), 0, (INT,), INT)), (((0, 0, 1, 0), ()),))
        self.right(text, kinds, (((0,), 0, (INT,), INT), ((0, 0), 1, (A,), INT)), (((0, 0, 1, 0), (INT,)),))
        kinds[(0, 0, 0)] = A
        self.wrong(text, kinds, (((0,), 0, (INT,), INT), ((0, 0), 1, (INT,), A)), (((0, 0, 1, 0), (INT,)),))

    def test_sums(self):
        self.wrong("( ) + 1", {(): INT, (0,): NOTHING, (1,): INT})
        self.wrong("1 + ( )", {(): INT, (0,): INT, (1,): NOTHING})
        self.wrong("let x = 1 + 1 in 1", {(): INT, (0,): NOTHING, (0, 0): INT, (0, 1): INT, (1,): INT})

    def test_ifs_and_lets(self):
        self.wrong("if ( ) then 1 else 1", {(): INT, (0,): NOTHING, (1,): INT, (2,): INT})
        self.wrong("if 1 then ( ) else 1", {(): INT, (0,): INT, (1,): NOTHING, (2,): INT})
        self.wrong("if 1 then 1 else ( )", {(): INT, (0,): INT, (1,): INT, (2,): NOTHING})
        self.wrong("let x = 1 in ( )", {(): INT, (0,): INT, (1,): NOTHING})
        self.wrong("let x = ( ) in x", {(): INT, (0,): NOTHING, (1,): INT})

    def test_splits(self):
        self.wrong("let ( x , y ) = ( ) in 1", {(): INT, (0,): NOTHING, (1,): INT})
        self.wrong("let ( x , y ) = 1 in x", {(): INT, (0,): INT, (1,): INT})
        self.wrong("let ( ) = ( 1 , 1 ) in 1", {(): INT, (0,): ("row", (INT, INT)), (0, 0): INT, (0, 1): INT, (1,): INT})

    def test_calls_and_makes(self):
        self.wrong("1 ( )", {(): INT, (0,): INT})
        text = "data d ( a ) = D ( a ) ; let x = D ( 1 ) in 1"
        self.right(text, {(): INT, (0,): ("data", "d", (INT,)), (0, 0): INT, (1,): INT})
        self.wrong(text, {(): INT, (0,): ("data", "d", (NOTHING,)), (0, 0): INT, (1,): INT})
        self.wrong(text, {(): INT, (0,): ("data", "d", ()), (0, 0): INT, (1,): INT})
        self.wrong(text, {(): INT, (0,): ("data", "e", (INT,)), (0, 0): INT, (1,): INT})
        self.wrong(text, {(): INT, (0,): INT, (0, 0): INT, (1,): INT})
        text = "data d = D ; data e = E ; let x = D in 1"
        self.right(text, {(): INT, (0,): ("data", "d", ()), (1,): INT})
        self.wrong(text, {(): INT, (0,): ("data", "e", ()), (1,): INT})
        self.right("data d ( a , b ) = D ( b ) ; let x = D ( 1 ) in 1",
                   {(): INT, (0,): ("data", "d", (("cell", INT), INT)), (0, 0): INT, (1,): INT})

    def test_matches(self):
        text = "data d = D ( int ) ; match D ( 1 ) { D ( x ) -> x }"
        self.right(text, {(): INT, (0,): ("data", "d", ()), (0, 0): INT, (1,): INT})
        text = "data d = D | F ; data e = E | G ; match E { D -> 1 | F -> 1 }"
        self.wrong(text, {(): INT, (0,): ("data", "e", ()), (1,): INT, (2,): INT})
        text = "data d = D | F ; match D { D -> 1 | F -> ( ) }"
        self.wrong(text, {(): INT, (0,): ("data", "d", ()), (1,): INT, (2,): NOTHING})
        text = "data d = D | F ; match D { D -> ( ) | F -> 1 }"
        self.wrong(text, {(): INT, (0,): ("data", "d", ()), (1,): NOTHING, (2,): INT})
        self.wrong("data d = D ( int ) ; match 1 { D ( x ) -> x }", {(): INT, (0,): INT, (1,): INT})

    def test_kinds_told_by_options(self):
        text = ("data d ( a ) = D ( fn ( a , int ) ( a , cell a ) , d ( a ) , cell d ( a ) ) | E ; "
                "match E { D ( f , x , c ) -> let ( y , z ) = f ( 1 , 2 ) in let w = get c in y | E -> 0 }")
        program = source_told(text)
        finding = found(program)
        kind = ("data", "d", (INT,))
        self.assertIs(is_finding(program, finding), True)
        self.assertEqual(dict(finding[0])[(1, 0, 0)], ("fun", (INT, INT), ("row", (INT, ("cell", INT)))))
        self.assertEqual(dict(finding[0])[(1, 1, 0)], kind)
        self.assertEqual(dict(finding[0])[(1, 1, 0, 0)], ("cell", kind))
        self.assertIs(is_finding(program, put(finding, {kind: ("data", "d", (NOTHING,))})), False)
        for at, (place, told) in enumerate(finding[0]):
            rows = finding[0][:at] + ((place, ("cell", told)),) + finding[0][at + 1:]
            self.assertIs(is_finding(program, (rows,) + finding[1:]), False)

    def test_kinds_put_in_the_kind_of_a_fun(self):
        text = LIST + "fun f ( x , g , c , l , r ) = ( x , g ( x ) , get c , l , r ) in let h = f in let k = h in 1"
        program = source_told(text)
        finding = found(program)
        self.assertIs(is_finding(program, finding), True)
        news = {("open", k): kind for k, kind in enumerate((INT, ("cell", INT), NOTHING, listed(INT), ("row", (INT, INT))))}
        self.assertIs(is_finding(program, put(finding, news)), True)
        text = LIST + "fun f ( g ) = g in f ( fn ( l ) match l { Nil -> ( 1 , cell l ) | Cons ( x , r ) -> ( x , cell r ) } ) ( Nil ) ; 1"
        program = source_told(text.replace("; 1", "").replace("in f (", "in let ( a , b ) = f (") + " in a")
        finding = found(program)
        self.assertIs(is_finding(program, finding), True)
        text = LIST + "fun f ( g , l , x ) = match l { Nil -> ( g ( l ) , cell x ) | Cons ( y , r ) -> ( y , cell x ) } in let h = f in 1"
        program = source_told(text)
        finding = found(program)
        self.assertEqual(finding[1][0][2], (("fun", (listed(A),), A), listed(A), B))
        self.assertIs(is_finding(program, put(finding, {("open", 0): INT, ("open", 1): NOTHING})), True)
        self.assertIs(is_finding(program, (finding[0], finding[1], put(finding[2], {("open", 0): INT}))), False)

    def test_body_of_an_fn(self):
        text = LIST + "let f = fn ( ) Nil in 1"
        kinds = {(): INT, (0,): ("fun", (), listed(INT)), (0, 0): listed(INT), (1,): INT}
        self.right(text, kinds, (((0,), 0, (), listed(INT)),))
        kinds[(0, 0)] = listed(NOTHING)
        self.wrong(text, kinds, (((0,), 0, (), listed(INT)),))
        kinds[(0, 0)] = listed(INT)
        self.wrong(text, kinds, (((0,), 0, (), listed(NOTHING)),))
        text = LIST + "fun f ( ) = Nil in 1"
        kinds = {(): INT, (0,): listed(INT), (1,): INT}
        self.right(text, kinds, (((), 0, (), listed(INT)),))
        self.wrong(text, kinds, (((), 0, (), listed(NOTHING)),))

    def test_cells_and_the_rest(self):
        self.wrong("let x = cell 1 := 2 in 3", {(): INT, (0,): INT, (0, 0): ("cell", INT), (0, 0, 0): INT, (0, 1): INT, (1,): INT})
        self.wrong("get 1", {(): INT, (0,): INT})
        self.wrong("cell 1 := ( ) ; 1", {(): INT, (0,): NOTHING, (0, 0): ("cell", INT), (0, 0, 0): INT, (0, 1): NOTHING, (1,): INT})
        self.wrong("say ( ) ; 1", {(): INT, (0,): NOTHING, (0, 0): NOTHING, (1,): INT})
        self.wrong("1 ; 1", {(): INT, (0,): INT, (1,): INT})
        self.wrong("let x = say 1 in 1", {(): INT, (0,): INT, (0, 0): INT, (1,): INT})
        self.wrong("( ) ; ( )", {(): INT, (0,): NOTHING, (1,): NOTHING})


class ByMutations(Case):
    def test_random_findings_changed(self):
        rng = random.Random(10)
        done = 0
        for seed in range(200):
            program = Maker(seed).program(20)
            try:
                finding = found(program)
            except CarriedError:
                continue
            for _ in range(4):
                at = rng.randrange(len(finding[0]))
                place, kind = finding[0][at]
                other = rng.choice(Changed.OTHERS + tuple(kind for _, kind in finding[0]))
                new = (finding[0][:at] + ((place, other),) + finding[0][at + 1:],) + finding[1:]
                # The kinds of a data may be any where nothing hangs on them: match Nil { Nil -> 1 | Cons ( x , r ) -> 2 }.
                if other == kind or other[:2] != kind[:2] or kind[0] != "data":
                    self.assertIs(is_finding(program, new), other == kind)
                    done += 1
        self.assertGreater(done, 300)


if __name__ == "__main__":
    unittest.main()
