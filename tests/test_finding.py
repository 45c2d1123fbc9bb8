import random
import time
import unittest

from kindscarried.errors import Clash, TooMany, Twice, Unfit, Unknown
from kindscarried.finding import found
from kindscarried.finding_judge import is_finding
from kindscarried.source import is_source, places_of, term_at
from kindscarried.source_texts import source_told
from tests.common import Case
from tests.naive_finding import NaiveError, naive_found
from tests.random_programs import Maker, mixed

INT = ("int",)
A, B, C = ("free", 0), ("free", 1), ("free", 2)
LIST = "data list ( a ) = Nil | Cons ( a , list ( a ) ) ; "


def fun(kinds, kind):
    return ("fun", kinds, kind)


def listed(kind):
    return ("data", "list", (kind,))


def kind_at(text, place):
    return dict(found(source_told(text))[0])[place]


class Found(Case):
    def test_examples(self):
        program = ((), ("fun", "f", ("x",), ("name", "x"), ("call", ("name", "f"), (("int", 1),))))
        self.assertEqual(found(program=program)[1:], ((((), 1, (A,), A),), (((1, 0), (INT,)),)))
        wrong = ((), ("call", ("fn", ("x",), ("sum", "add", ("name", "x"), ("int", 1))), (("row", ()),)))
        self.fails(Clash, "places", ((0,), ()), found, wrong)

    def whole(self, text, places, funs=(), uses=()):
        program = source_told(text)
        self.assertEqual(found(program), (places, funs, uses))
        self.assertEqual(tuple(place for place, _ in places), places_of(program))
        self.assertIs(is_finding(program, found(program)), True)

    def test_each_form(self):
        self.whole("1", (((), INT),))
        self.whole("1 + 2", (((), INT), ((0,), INT), ((1,), INT)))
        self.whole("1 < 2", (((), INT), ((0,), INT), ((1,), INT)))
        self.whole("if 1 then 2 else 3", (((), INT), ((0,), INT), ((1,), INT), ((2,), INT)))
        self.whole("let x = ( ) in 1", (((), INT), ((0,), ("row", ())), ((1,), INT)))
        self.whole("let x = 2 in x", (((), INT), ((0,), INT), ((1,), INT)))
        self.whole("let ( x , y ) = ( 1 , ( ) ) in x",
                   (((), INT), ((0,), ("row", (INT, ("row", ())))), ((0, 0), INT), ((0, 1), ("row", ())), ((1,), INT)))
        self.whole("let ( ) = ( ) in 1", (((), INT), ((0,), ("row", ())), ((1,), INT)))
        self.whole("( fn ( x ) x ) ( 1 )", (((), INT), ((0,), fun((INT,), INT)), ((0, 0), INT), ((1,), INT)), (((0,), 0, (INT,), INT),))
        self.whole("( fn ( ) 1 ) ( )", (((), INT), ((0,), fun((), INT)), ((0, 0), INT)), (((0,), 0, (), INT),))
        self.whole("get cell 1", (((), INT), ((0,), ("cell", INT)), ((0, 0), INT)))
        self.whole("say 1 ; 2", (((), INT), ((0,), ("row", ())), ((0, 0), INT), ((1,), INT)))
        self.whole("cell 1 := 2 ; 3", (((), INT), ((0,), ("row", ())), ((0, 0), ("cell", INT)), ((0, 0, 0), INT), ((0, 1), INT), ((1,), INT)))
        self.whole(LIST + "match Cons ( 1 , Nil ) { Nil -> 0 | Cons ( x , r ) -> x }",
                   (((), INT), ((0,), listed(INT)), ((0, 0), INT), ((0, 1), listed(INT)), ((1,), INT), ((2,), INT)))

    def test_functions_with_variables(self):
        self.whole("fun f ( x , y ) = x in f ( f ( 1 , ( ) ) , 2 )",
                   (((), INT), ((0,), A), ((1,), INT), ((1, 0), fun((INT, INT), INT)), ((1, 1), INT),
                    ((1, 1, 0), fun((INT, ("row", ())), INT)), ((1, 1, 1), INT), ((1, 1, 2), ("row", ())), ((1, 2), INT)),
                   (((), 2, (A, B), A),), (((1, 0), (INT, INT)), ((1, 1, 0), (INT, ("row", ())))))

    def test_variables_come_as_they_first_stand(self):
        text = "fun f ( x , y , z ) = ( z , ( x , fn ( w ) w ) ) in 1"
        _, funs, _ = found(source_told(text))
        self.assertEqual(funs[0], ((), 4, (A, B, C), ("row", (C, ("row", (A, fun((("free", 3),), ("free", 3))))))))
        _, funs, _ = found(source_told("fun f ( ) = fn ( x ) fn ( y ) ( y , x ) in 1"))
        self.assertEqual(funs[0], ((), 2, (), fun((A,), fun((B,), ("row", (B, A))))))

    def test_a_function_handed_on(self):
        self.whole("fun f ( x ) = x in let g = f in g ( 1 )",
                   (((), INT), ((0,), A), ((1,), INT), ((1, 0), fun((INT,), INT)), ((1, 1), INT), ((1, 1, 0), fun((INT,), INT)), ((1, 1, 1), INT)),
                   (((), 1, (A,), A),), (((1, 0), (INT,)),))

    def test_own_word_in_its_body_has_one_kind(self):
        kinds, funs, uses = found(source_told("fun f ( x ) = f ( x ) in f ( ( ) )"))
        self.assertEqual(funs, (((), 2, (A,), B),))
        self.assertEqual(uses, (((1, 0), (("row", ()), INT)),))
        self.assertEqual(dict(kinds)[(0, 0)], fun((A,), B))
        self.fails(Clash, "places", ((0, 1, 0), (0, 1)), found, source_told("fun f ( x ) = ( x , f ( 1 , 2 ) ) in 1"))

    def test_functions_within_functions(self):
        text = "fun f ( x ) = fun g ( y ) = ( x , y ) in fun h ( z ) = g ( ( z , x ) ) in h in 1"
        kinds, funs, uses = found(source_told(text))
        self.assertEqual(funs, (((), 2, (A,), fun((B,), ("row", (A, ("row", (B, A)))))), ((0,), 1, (C,), ("row", (A, C))),
                                ((0, 1), 1, (C,), ("row", (A, ("row", (C, A)))))))
        self.assertEqual(uses, (((0, 1, 0, 0), (("row", (C, A)),)), ((0, 1, 1), (B,))))
        self.assertEqual(dict(kinds)[(0, 0)], ("row", (A, C)))

    def test_variables_of_outer_functions_come_first(self):
        text = "fun f ( x , y ) = fun g ( z ) = z in fun h ( v ) = fun k ( w ) = ( v , w ) in k ( v ) in ( x , y ) in 1"
        kinds, funs, uses = found(source_told(text))
        self.assertEqual([row[1] for row in funs], [2, 1, 1, 1])
        self.assertEqual(funs[1][2:], ((C,), C))
        self.assertEqual(funs[2][2:], ((C,), ("row", (C, C))))
        self.assertEqual(funs[3][2:], ((("free", 3),), ("row", (C, ("free", 3)))))
        self.assertEqual(uses, (((0, 1, 0, 1, 0), (C,)),))

    def test_kinds_of_words_around_are_no_variables(self):
        text = "( fn ( x ) fun f ( y ) = ( x , y ) in f ( 1 ) ) ( 2 ) ; 1"
        self.fails(Clash, "places", ((0,), ()), found, source_told(text))
        text = "let c = cell ( fn ( x ) x ) in fun f ( y ) = ( get c ) ( y ) in f ( 1 )"
        kinds, funs, uses = found(source_told(text))
        self.assertEqual(funs[1][1:], (0, (INT,), INT))
        self.assertEqual(uses, (((1, 1, 0), ()),))
        text = "let c = cell ( fn ( x ) x ) in fun f ( y ) = ( get c ) ( y ) in f ( 1 ) + ( let z = f ( ( ) ) in 1 )"
        self.fails(Clash, "places", ((1, 1, 1, 0, 0), (1, 1, 1, 0)), found, source_told(text))

    def test_shadowing(self):
        self.assertEqual(kind_at("fun f ( f ) = f in f ( 1 )", (0,)), A)
        self.assertEqual(kind_at("let x = ( ) in let x = 1 in x", (1, 1)), INT)
        self.assertEqual(kind_at("fun f ( x ) = x in let f = 1 in f", (1, 1)), INT)
        self.assertEqual(found(source_told("fun f ( x ) = x in let f = 1 in f"))[2], ())

    def test_open_kinds(self):
        text = "let f = fn ( x , y ) x in let g = fn ( z ) 1 in 2"
        kinds, funs, _ = found(source_told(text))
        first, second, third = ("open", 0), ("open", 1), ("open", 2)
        self.assertEqual(dict(kinds)[(0,)], fun((first, second), first))
        self.assertEqual(dict(kinds)[(1, 0)], fun((third,), INT))
        self.assertEqual(funs, (((0,), 0, (first, second), first), ((1, 0), 0, (third,), INT)))
        text = LIST + "fun f ( x ) = 1 in f ( Nil )"
        kinds, funs, uses = found(source_told(text))
        self.assertEqual(dict(kinds)[(1, 1)], listed(("open", 0)))
        self.assertEqual(uses, (((1, 0), (listed(("open", 0)),)),))
        # First numbered in places, then in funs, then in uses.
        text = "fun f ( ) = fn ( x ) 1 in fun g ( ) = 1 in let h = fn ( y ) 2 in let k = f in 1"
        kinds, funs, uses = found(source_told(text))
        self.assertEqual(dict(kinds)[(1, 1, 0)], fun((("open", 0),), INT))
        self.assertEqual(dict(kinds)[(1, 1, 1, 0)], fun((), fun((("open", 1),), INT)))
        self.assertEqual(uses, (((1, 1, 1, 0), (("open", 1),)),))

    def test_datas(self):
        text = LIST + "fun map ( f , l ) = match l { Nil -> Nil | Cons ( x , r ) -> Cons ( f ( x ) , map ( f , r ) ) } in 1"
        _, funs, _ = found(source_told(text))
        self.assertEqual(funs, (((), 2, (fun((A,), B), listed(A)), listed(B)),))
        text = "data two ( a , b ) = Two ( b , a ) ; fun swap ( t ) = match t { Two ( x , y ) -> Two ( y , x ) } in swap ( Two ( 1 , ( ) ) ) ; 1"
        self.fails(Clash, "places", ((1, 0), (1,)), found, source_told(text))
        text = "data two ( a , b ) = Two ( b , a ) ; fun swap ( t ) = match t { Two ( x , y ) -> Two ( y , x ) } in let u = swap in 1"
        kinds, funs, _ = found(source_told(text))
        self.assertEqual(funs, (((), 2, (("data", "two", (A, B)),), ("data", "two", (B, A))),))
        text = ("data list ( a ) = Nil | Cons ( a , list ( a ) ) ; data rose ( a ) = Rose ( a , list ( rose ( a ) ) ) ;"
                "match Rose ( 1 , Cons ( Rose ( 2 , Nil ) , Nil ) ) { Rose ( x , r ) -> match r { Nil -> x | Cons ( y , s ) -> 0 } }")
        self.assertEqual(kind_at(text, (1, 0)), listed(("data", "rose", (INT,))))

    def test_kinds_told_by_options(self):
        text = ("data d ( a ) = D ( fn ( a , int ) ( a , cell a ) , d ( a ) , cell d ( a ) ) | E ; "
                "match E { D ( f , x , c ) -> let ( y , z ) = f ( 1 , 2 ) in get z + y + match get c { D ( u , v , w ) -> 3 | E -> 4 } | E -> 0 }")
        self.assertEqual(kind_at(text, (1, 0, 0)), fun((INT, INT), ("row", (INT, ("cell", INT)))))
        self.assertEqual(kind_at(text, (1, 1, 1, 0, 0)), ("cell", ("data", "d", (INT,))))
        text = "data d ( a ) = D ( ( a , int ) , ( ) , cell ( fn ( ) a ) ) ; fun f ( x ) = match x { D ( p , q , r ) -> ( p , q , ( get r ) ( ) ) } in 1"
        text = text.replace("cell ( fn ( ) a )", "cell fn ( ) a")
        self.assertEqual(found(source_told(text))[1], (((), 1, (("data", "d", (A,)),), ("row", (("row", (A, INT)), ("row", ()), A))),))

    def test_open_kinds_of_a_match_are_new_for_each(self):
        text = LIST + "fun len ( l ) = match l { Nil -> 0 | Cons ( x , r ) -> 1 + len ( r ) } in len ( Cons ( 1 , Nil ) ) + len ( Cons ( ( ) , Nil ) )"
        _, funs, uses = found(source_told(text))
        self.assertEqual(funs, (((), 1, (listed(A),), INT),))
        self.assertEqual(uses, (((1, 0, 0), (INT,)), ((1, 1, 0), (("row", ()),))))


class Words(Case):
    def twice(self, text, word):
        self.fails(Twice, "word", word, found, source_told(text))

    def unknown(self, text, word):
        self.fails(Unknown, "word", word, found, source_told(text))

    def test_twice_in_datas(self):
        self.twice("data d = A ; data e = B ; data d = C ; 1", "d")
        self.twice("data d ( a , b , a ) = A ; 1", "a")
        self.twice("data d = A | B | A ; 1", "A")
        self.twice("data d = A ; data e = B | A ; 1", "A")
        found(source_told("data d ( d ) = A ; data e ( d ) = B ; 1"))

    def test_twice_in_their_sequence(self):
        self.twice("data d ( a , a ) = A | A ; data d = B ; 1", "a")
        self.twice("data d = A | A ; data d = B ; 1", "A")
        self.twice("data d = A ; data d ( a , a ) = A ; 1", "d")
        self.twice("data d = A ; data e ( a , a ) = A ; 1", "a")
        self.twice("data d = A ( x ) ; data d = B ; 1", "d")
        self.twice("data d = A ( x ) ; data e = B | B ; y", "B")

    def test_twice_in_terms(self):
        self.twice("fn ( x , y , x , y ) 1", "x")
        self.twice("fun f ( x , y , y , x ) = 1 in 1", "y")
        self.twice("let ( x , y , y ) = 1 in 1", "y")
        self.twice("data d = A ( int , int ) | B ( int , int ) ; match 1 { A ( x , y ) -> 1 | B ( z , z ) -> 1 }", "z")
        self.assertEqual(kind_at("fun f ( f ) = 1 in 1", ()), INT)
        self.assertEqual(kind_at("data d = A ( int ) | B ( int ) ; match A ( 1 ) { A ( x ) -> x | B ( x ) -> x }", ()), INT)

    def test_unknown_written_kinds(self):
        self.unknown("data d = A ( e ) ; data e = B ; 1", "e")
        self.unknown("data d ( a ) = A ( a ( int ) ) ; 1", "a")
        self.unknown("data d ( a ) = A ( d ) ; 1", "d")
        self.unknown("data d ( a ) = A ( d ( int ) ) ; 1", "d")
        self.unknown("data d ( a , b ) = A ( d ( b , a ) ) ; 1", "d")
        self.unknown("data d ( a ) = A ( d ( a , a ) ) ; 1", "d")
        self.unknown("data e = E ; data d = A ( e ( int ) ) ; 1", "e")
        self.unknown("data e ( a ) = E ; data d = A ( e ) ; 1", "e")
        self.unknown("data e ( a ) = E ; data d ( e ) = A ( e ( int ) ) ; 1", "e")
        self.unknown("data d ( d ) = A ( d ( d ) ) ; 1", "d")
        self.unknown("data d = A ( fn ( int , x ) y ) ; 1", "x")
        self.unknown("data d = A ( fn ( int ) y , x ) ; 1", "y")
        self.unknown("data d = A ( x ( y ) ) ; 1", "x")
        self.unknown("data e ( a ) = E ; data d = A ( e ( y ) , x ) ; 1", "y")
        self.unknown("data d = A ( ( int , cell q ) ) | B ( x ) ; 1", "q")
        for right in ("data d ( a , b ) = A ( d ( a , b ) ) ; 1", "data d = A ( d ) ; 1", "data e ( a ) = E ; data d = A ( e ( e ( int ) ) ) ; 1",
                      "data e ( a ) = E ; data d ( e ) = A ( e ) ; 1", "data d ( d ) = A ( d ) ; 1"):
            found(source_told(right))

    def test_unknown_names(self):
        self.unknown("x", "x")
        self.unknown("let x = x in 1", "x")
        self.unknown("( let x = 1 in x ) + x", "x")
        self.unknown("fun f ( x ) = 1 in x", "x")
        self.unknown("let ( x , y ) = x in 1", "x")
        self.unknown("( fn ( x ) 1 ) ( x )", "x")
        self.unknown("data d = A ( int ) | B ; match A ( 1 ) { A ( x ) -> 1 | B -> x }", "x")
        self.unknown("data d = A ( int ) ; match A ( x ) { A ( x ) -> 1 }", "x")
        self.unknown("let y = z in x", "z")
        self.unknown("x ( z )", "x")

    def test_unknown_options(self):
        self.unknown("A", "A")
        self.unknown("data d = A ; A ( 1 )", "A")
        self.unknown("data d = A ( int ) ; A", "A")
        self.unknown("data d = A ( int , int ) ; A ( 1 )", "A")
        self.unknown("match 1 { A -> 1 }", "A")
        self.unknown("data d = A | B ; match A { A -> 1 | C -> 1 }", "C")
        self.unknown("data d = A | B ( int ) ; match A { A -> 1 | B -> 1 }", "B")
        self.unknown("data d = A | B ; match A { A -> 1 }", "A")
        self.unknown("data d = A | B ; match A { B -> 1 | A -> 1 }", "B")
        self.unknown("data d = A | B ; match A { A -> 1 | B -> 1 | B -> 1 }", "A")
        self.unknown("data d = A ; data e = B ; match A { A -> 1 | B -> 1 }", "A")
        self.unknown("data d = A | B ; match A { B -> 1 }", "B")

    def test_their_sequence(self):
        self.twice("fn ( x , x ) y", "x")
        self.unknown("y ( fn ( x , x ) 1 )", "y")
        self.twice("( fn ( x , x ) y ) + A", "x")
        self.twice("data d = A ( int , int ) ; match y { A ( x , x ) -> 1 }", "x")
        self.unknown("data d = A ( int ) ; match y { B ( x ) -> 1 | A -> 1 }", "B")
        self.unknown("data d = A ( int ) | B ; match y { A ( x ) -> 1 | B ( x ) -> 1 }", "B")
        self.unknown("data d = A ( int ) | B ; match y { B -> 1 | A ( x ) -> 1 }", "B")
        self.twice("match 1 { A ( x ) -> 1 | B ( y , y ) -> 1 }", "y")
        self.unknown("A ( y )", "A")
        self.unknown("data d = A ( int ) ; A ( y )", "y")
        self.unknown("1 ( 2 ) + y", "y")
        self.unknown("( ) + ( let x = 1 in y )", "y")


class Demands(Case):
    def clash(self, text, p, q):
        self.fails(Clash, "places", (p, q), found, source_told(text))

    def test_each(self):
        self.clash("( ) + 1", (0,), ())
        self.clash("1 + ( )", (1,), ())
        self.clash("( ) + ( )", (0,), ())
        self.clash("1 = ( )", (1,), ())
        self.clash("if ( ) then 1 else ( )", (0,), ())
        self.clash("if 1 then 1 else ( )", (2,), (1,))
        self.clash("let ( x , y ) = 1 in 1", (0,), ())
        self.clash("let ( x , y ) = ( 1 , 2 , 3 ) in 1", (0,), ())
        self.clash("let ( ) = ( 1 , 2 ) in 1", (0,), ())
        self.clash("fun f ( x ) = f in 1", (0,), ())
        self.clash("1 ( )", (0,), ())
        self.clash("( fn ( x ) 1 ) ( )", (0,), ())
        self.clash("( fn ( x ) 1 + x ) ( ( ) )", (0,), ())
        self.clash("data d = A ( int , ( ) ) ; let x = A ( 1 , 2 ) in 1", (0, 1), (0,))
        self.clash("data d = A ( int , ( ) ) ; let x = A ( ( ) , 2 ) in 1", (0, 0), (0,))
        self.clash("data d ( a ) = A ( a , a ) ; let x = A ( 1 , ( ) ) in 1", (0, 1), (0,))
        self.clash("data d = A ; match 1 { A -> 1 }", (0,), ())
        self.clash("data d = A ; data e = B ; match B { A -> 1 }", (0,), ())
        self.clash("data d = A | B | C ; match A { A -> 1 | B -> 1 | C -> ( ) }", (3,), (1,))
        self.clash("data d = A | B | C ; match A { A -> ( ) | B -> 1 | C -> 1 }", (2,), (1,))
        self.clash("data d = A ( int ) ; match A ( 1 ) { A ( x ) -> x ( ) }", (1, 0), (1,))
        self.clash("get 1", (0,), ())
        self.clash("1 := 1 ; 1", (0, 0), (0, 1))
        self.clash("cell 1 := ( ) ; 1", (0, 0), (0, 1))
        self.clash("say ( ) ; 1", (0, 0), (0,))
        self.clash("1 ; 2", (0,), ())
        self.clash("( 1 , 2 ) ; 2", (0,), ())
        self.clash("( )", (), ())
        self.clash("fn ( x ) x", (), ())
        self.clash("cell 1", (), ())

    def test_the_first_one_that_comes_up(self):
        self.clash("( 1 + ( ) ) + ( )", (0, 1), (0,))
        self.clash("( ) + ( 1 + ( ) )", (1, 1), (1,))
        self.clash("1 ( 1 ( ) )", (1, 0), (1,))
        self.clash("( 1 ( ) ) ( 1 ( ) )", (0, 0), (0,))
        self.clash("if ( ) then 1 + ( ) else 1", (1, 1), (1,))
        self.clash("1 ; 1 + ( )", (0,), ())
        self.clash("let ( x , y ) = 1 in ( ) + 1", (0,), ())
        self.clash("let x = ( ) in x + 1", (1, 0), (1,))
        self.clash("( ) := 1 + ( ) ; 1", (0, 1, 1), (0, 1))
        self.clash("data d = A ( int ) ; A ( 1 + ( ) )", (0, 1), (0,))
        self.clash("data d = A ; match 1 { A -> 1 + ( ) }", (0,), ())
        self.clash("data d = A | B ; match A { A -> 1 | B -> 1 + ( ) }", (2, 1), (2,))
        self.clash("fun f ( x ) = 1 + ( ) in ( )", (0, 1), (0,))
        self.clash("1 + ( )", (1,), ())

    def test_kinds_come_by_what_was_ahead(self):
        self.clash("( fn ( x ) ( x + 1 , x ( ) ) ) ( 1 )", (0, 0, 1, 0), (0, 0, 1))
        self.clash("( fn ( x ) ( x ( ) , x + 1 ) ) ( 1 )", (0, 0, 1, 0), (0, 0, 1))
        self.clash("let f = fn ( x ) x in f ( 1 ) + f ( ( ) )", (1, 1, 0), (1, 1))
        self.clash("let c = cell ( fn ( x ) x ) in c := ( fn ( y ) y + 1 ) ; ( get c ) ( ( ) )", (1, 1, 0), (1, 1))

    def test_a_thing_inside_of_itself(self):
        self.clash("fn ( x ) x ( x )", (0, 0), (0,))
        self.clash("fun f ( x ) = f ( f ) in 1", (0, 0), (0,))
        self.clash("fun f ( ) = f in 1", (0,), ())
        self.clash("fun f ( x ) = ( x , f ( x ) ) in 1", (0,), ())
        self.clash("fn ( x ) if 1 then x else cell x", (0, 2), (0, 1))
        self.clash("fn ( c ) c := c", (0, 0), (0, 1))
        self.clash(LIST + "fn ( x ) Cons ( x , x )", (0, 1), (0,))
        self.clash("fn ( x , y ) ( if 1 then x else ( y , 1 ) , if 1 then y else ( x , 1 ) )", (0, 1, 2), (0, 1, 1))
        self.clash("fn ( x , y , z ) ( if 1 then ( x , y ) else ( ( y , 1 ) , ( z , 1 ) ) , if 1 then z else ( x , 1 ) )", (0, 1, 2), (0, 1, 1))

    def test_too_many_variables(self):
        six = "a , b , c , d , e , g"
        rest = "( " + " , ".join("fn ( v ) v" for _ in range(2)) + " )"
        program = source_told("fun f ( %s ) = ( %s , %s ) in 1" % (six, "a", rest))
        self.assertEqual(found(program)[1][0][1], 8)
        for many, wrong in ((2, False), (3, True), (6, True)):
            rest = "( " + " , ".join("fn ( v ) v" for _ in range(many)) + " )"
            program = source_told("fun f ( %s ) = ( %s , %s ) in ( )" % (six, "a", rest))
            if wrong:
                self.fails(TooMany, "count", 8, found, program)
            else:
                self.fails(Clash, "places", ((), ()), found, program)

    def test_too_many_comes_as_it_comes_up(self):
        six = "a , b , c , d , e , g"
        nine = "fun f ( %s ) = ( fn ( v ) v , fn ( v ) v , fn ( v ) v ) in " % six
        self.fails(TooMany, "count", 8, found, source_told(nine + "1 ( )"))
        self.clash("let x = 1 ( ) in " + nine + "1", (0, 0), (0,))
        self.fails(TooMany, "count", 8, found, source_told("fun f ( %s ) = ( %s ) in 1" % (
            six, " , ".join(["fn ( v ) cell cell cell cell cell cell cell cell cell cell cell cell cell cell cell v"] * 3))))


class Great(Case):
    def unfit(self, text, place):
        self.fails(Unfit, "place", place, found, source_told(text))

    def test_depth_of_a_place(self):
        # A cell of a cell .. of 1: 20 deep is not great, 21 deep is.
        cells = "cell " * 9
        self.assertEqual(kind_at("let x = %s 1 in let y = %s x in cell y ; 1".replace("cell y ; 1", "1") % (cells, cells + "cell "), (1, 1)), INT)
        self.unfit("let x = %s 1 in let y = %s x in 1" % (cells, "cell " * 11), (1, 0))
        self.unfit("let x = %s 1 in let y = %s x in 1" % (cells, "cell " * 13), (1, 0))

    def test_depth_of_a_function(self):
        self.assertEqual(kind_at("fun f ( x ) = %s x in 1" % ("cell " * 18), ()), INT)
        cells = "cell " * 9
        self.unfit("fun f ( x ) = let y = %s x in %s y in 1" % (cells, "cell " * 10), ())
        self.unfit("let g = fn ( x ) let y = %s x in %s y in 1" % (cells, "cell " * 10), (0,))
        self.assertEqual(kind_at("let g = fn ( x ) let y = %s x in %s y in 1" % (cells, "cell " * 9), ()), INT)

    def test_fun_comes_up_ahead_of_clash_behind_it(self):
        cells = "cell " * 9
        self.unfit("fun f ( x ) = let y = %s x in %s y in 1 ( )" % (cells, "cell " * 10), ())
        self.fails(Clash, "places", ((1, 0), (1,)), found, source_told("let g = fn ( x ) let y = %s x in %s y in 1 ( )" % (cells, "cell " * 10)))

    def test_core_kind_counts(self):
        # data d of one option with one kind is 3 deeper than it, and 4 nodes with an int.
        text = "data d ( a ) = D ( a , int ) ; fun f ( x ) = %s x %s in 1"
        inner = "D ( " * 6, " , 1 ) " * 6
        self.assertEqual(kind_at(text % inner, ()), INT)
        inner = "D ( " * 7, " , 1 ) " * 7
        self.unfit(text % inner, ())
        six = "D ( " * 6 + "1" + " , 1 ) " * 6
        text = "data d ( a ) = D ( a , int ) ; let x = %s in %s"
        self.assertEqual(kind_at(text % (six, "1"), ()), INT)
        self.unfit(text % ("D ( %s , 1 )" % six, "1"), (0,))

    def test_nodes_of_a_place(self):
        # a has 7 nodes, b 43, c 173; d is one node, c, and 26 nodes more: 200.
        text = "let a = %s in let b = ( a , a , a , a , a , a ) in let c = ( b , b , b , b ) in let d = ( c , %s ) in 1"
        a = "( 1 , 1 , 1 , 1 , 1 , 1 )"
        self.assertEqual(kind_at(text % (a, "( a , a , a , ( 1 , 1 , 1 ) )"), ()), INT)
        self.unfit(text % (a, "( a , a , a , ( 1 , 1 , 1 , 1 ) )"), (1, 1, 1, 0))
        self.unfit(text % (a, "( a , a , a , a , a )"), (1, 1, 1, 0))

    def test_nodes_of_a_function(self):
        text = "let a = %s in let b = ( a , a , a , a , a , a ) in let c = ( b , b , b , b ) in fun f ( ) = ( c , %s ) in 1"
        a = "( 1 , 1 , 1 , 1 , 1 , 1 )"
        self.assertEqual(kind_at(text % (a, "( a , a , a , ( 1 , 1 ) )"), ()), INT)
        self.unfit(text % (a, "( a , a , a , ( 1 , 1 , 1 ) )"), (1, 1, 1))
        # The fun is great by one node, the body is not.
        self.unfit(text.replace("fun f ( ) = ( c , %s ) in 1", "let f = fn ( ) ( c , %s ) in 1") % (a, "( a , a , a , ( 1 , 1 , 1 ) )"), (1, 1, 1, 0))

    def test_unfolded_datas(self):
        # The core kind has a nodes and r variables of its own: unfolded a - 1 + r * (a - 1).
        def text(many, more):
            kinds = " , ".join(["d"] * many + ["int"] * more)
            return "data d = D ( %s ) | E ; fun f ( x ) = match x { D ( %s ) -> 1 | E -> 2 } in f ( E )" % (
                kinds, " , ".join("w%d" % k for k in range(many + more)))
        self.assertEqual(kind_at(text(6, 0), ()), INT)
        six = "D%d ( ( d , d , d , d , d , d ) )"

        def wide(rows, last):
            options = " | ".join([six % k for k in range(rows)] + ["E ( %s )" % last])
            return "data d = %s ; let g = fn ( x ) ( x ; 1 ) in let h = fn ( x ) match x { %s } in 1" % (
                options, " | ".join(["D%d ( y ) -> 1" % k for k in range(rows)] + ["E ( y ) -> 2"]))
        # 2 rows: nodes 2 + 2 * 8 + 2 = 20 (with the int), 12 variables: 19 + 12 * 19 = 247.
        self.unfit(wide(2, "int"), (1, 0, 0, 0))
        # 1 row: 2 + 8 + 2 = 12, 6 variables: 11 + 6 * 11 = 77.
        self.assertEqual(kind_at(wide(1, "int"), ()), INT)

    def test_unfolded_at_the_bound(self):
        # One option of six: c nodes in all, with one variable: unfolded c - 1 + (c - 1) nodes, which are 200 for c of 101.
        def data(ints):
            first = "( " + " , ".join(["int"] * 6) + " )"
            second = "( " + " , ".join([first] * 6) + " )"
            return "data d = D ( d , %s , %s ) | E ( %s ) ; fun f ( x ) = match x { D ( a , b , c ) -> 1 | E ( %s ) -> 2 } in 1" % (
                second, second, " , ".join(["int"] * ints), " , ".join("w%d" % k for k in range(ints)))
        # rec, one, row, var, 2 * 43, row and ints: 4 + 86 + 1 + ints = 91 + ints, at most 97.
        self.assertEqual(kind_at(data(6), ()), INT)
        wider = data(6).replace("( d , ", "( d , int , int , ").replace("( a , b , c )", "( a , b , c , a1 , b1 )")
        self.assertEqual(kind_at(wider, ()), INT)
        widest = data(6).replace("( d , ", "( d , ( int , int ) , ( ) , ").replace("( a , b , c )", "( a , b , c , a1 , b1 )")
        self.assertEqual(kind_at(widest, ()), INT)
        great = data(6).replace("( d , ", "( d , ( int , int ) , int , int , ").replace("( a , b , c )", "( a , b , c , a1 , b1 , c1 )")
        self.unfit(great, (0, 0))

    def test_uses_are_looked_at(self):
        # The kind put in stands in no kind of a place: the function's own kind has it, the use hands on a great one.
        text = "let a = ( 1 , 1 , 1 , 1 , 1 , 1 ) in let b = ( a , a , a , a , a , a ) in fun f ( x ) = 1 in f ( ( b , b , b , b , b ) )"
        self.unfit(text, (1, 1, 1, 0))

    def test_great_by_themselves_alone(self):
        # No option of d has its parameter: core kinds stay small, whatever it is.
        text = ("data d ( a ) = D ; data w ( a ) = W ( d ( a ) , d ( %s ) ) ; fun up ( x ) = match W ( x , D ) { W ( p , q ) -> q } in "
                "let a = %s D %s in let b = %s a %s in 1")

        def ups(kind, first, second):
            return text % (kind, "up ( " * first, ") " * first, "up ( " * second, ") " * second)
        self.assertEqual(kind_at(ups("d ( a )", 9, 8), ()), INT)
        self.unfit(ups("d ( a )", 9, 9), (1, 1, 0, 0))
        self.unfit(ups("d ( a )", 9, 10), (1, 1, 0))
        self.assertEqual(kind_at(ups("( a , a , a , a , a , a )", 1, 1), ()), INT)
        self.unfit(ups("( a , a , a , a , a , a )", 1, 2), (1, 1, 0))
        self.unfit(ups("d ( a )", 9, 10).replace("let b =", "fun b ( ) ="), (1, 1))
        self.unfit(ups("( a , a , a , a , a , a )", 1, 2).replace("let b =", "fun b ( ) ="), (1, 1))

    def test_function_of_a_fun_that_grows_later(self):
        text = ("let a = %s 1 in let b = %s a in let g = fn ( x ) fun f ( y ) = ( x , y ) in let z = if 1 then x else b in 1 in 1")
        self.assertEqual(kind_at(text % ("cell " * 9, "cell " * 8), ()), INT)
        self.unfit(text % ("cell " * 9, "cell " * 9), (1, 1, 0, 0))

    def test_the_first_place(self):
        cells = "let x = %s 1 in " % ("cell " * 12)
        self.unfit(cells + "let g = fn ( y ) ( y , %s x ) in ( let z = %s x in 1 ) + 1" % ("cell " * 12, "cell " * 10), (1, 0))

    def test_functions_that_double(self):
        start = time.time()
        for many in (4, 7, 12, 17):
            text = "fun f0 ( x ) = ( x , x ) in "
            for k in range(1, many):
                text += "fun f%d ( x ) = f%d ( f%d ( x ) ) in " % (k, k - 1, k - 1)
            self.unfit(text + "1", (1,) * 3)
        text = "let a0 = fn ( x ) x in " + "".join("let a%d = ( a%d , a%d ) in " % (k, k - 1, k - 1) for k in range(1, 18)) + "1"
        self.unfit(text, (1,) * 6 + (0,))
        text = "let a0 = fn ( x ) x in " + "".join("let a%d = ( a%d , a%d ) in " % (k, k - 1, k - 1) for k in range(1, 17)) + "fun f ( ) = a16 in 1 ( )"
        self.unfit(text, (1,) * 17)
        text = "let a0 = fn ( x ) x in " + "".join("let a%d = ( a%d , a%d ) in " % (k, k - 1, k - 1) for k in range(1, 18)) + "if 1 then a17 else a16"
        self.fails(Clash, "places", ((1,) * 18 + (2,), (1,) * 18 + (1,)), found, source_told(text))
        self.assertLess(time.time() - start, 10)

    def test_kinds_that_nest_deep(self):
        start = time.time()
        text = "fun f ( x ) = %s x in " % ("cell " * 17)
        for k in range(12):
            inner = "y%d" % (k - 1) if k else "1"
            text += "let y%d = %s%s%s in " % (k, "f ( " * 6, inner, " )" * 6)
        self.unfit(text + "1", (1, 0))
        text = "let f = fn ( x ) %s x in " % ("cell " * 17)
        self.assertLess(time.time() - start, 10)

    def test_many_big_datas(self):
        start = time.time()
        row = "( " + " , ".join(["( " + " , ".join(["( a , a , a , a , a , a )"] * 6) + " )"] * 6) + " )"
        text = "data d ( a ) = D ( %s , %s ) ; let f = fn ( x ) ( %s ) in 1" % (row, row, " , ".join(
            ["( " + " , ".join(["D ( x , x )"] * 6) + " )"] * 6))
        self.unfit(text, (0,))
        self.assertLess(time.time() - start, 10)


class ByOtherMeans(Case):
    def test_found_is_what_plain_substitution_finds(self):
        rng = random.Random(9)
        told = {}
        for seed in range(700):
            maker = Maker(seed)
            program = maker.program(rng.choice((5, 10, 20, 30)))
            for _ in range(seed % 3):
                program = mixed(program, rng)
            if not is_source(program):
                continue
            try:
                first = found(program)
            except Clash as error:
                first = ("clash",) + error.places
            except TooMany:
                first = ("many",)
            except (Twice, Unknown, Unfit):
                continue
            try:
                second = naive_found(program)
            except NaiveError as error:
                second = error.args
            self.assertEqual(first, second, program)
            sort = first[0] if isinstance(first[0], str) else "found"
            told[sort] = told.get(sort, 0) + 1
            if sort == "found":
                self.assertIs(is_finding(program, first), True)
                for place, _ in first[0]:
                    self.assertIsNotNone(term_at(program, place))
        self.assertGreater(told["found"], 200)
        self.assertGreater(told["clash"], 100)


if __name__ == "__main__":
    unittest.main()
