import time
import unittest

from kindscarried.core_steps import run_steps
from kindscarried.errors import CarriedError, Clash, InvalidCount, InvalidPart, TooMany, Twice, Unfit, Unknown
from kindscarried.finding import found
from kindscarried.source import is_source
from kindscarried.source_run import run_source
from kindscarried.source_texts import source_told
from kindscarried.to_core import to_core
from tests.common import Case
from tests.random_programs import Maker

LIST = "data list ( a ) = Nil | Cons ( a , list ( a ) ) ; "


class Runs(Case):
    def ends(self, text, number, letters=(), beats=0):
        """It is done with just so many beats, and spent with fewer."""
        program = source_told(text)
        for more in (0, 1, 100, 20000):
            self.assertEqual(run_source(program, beats + more), ("done", number, letters), text)
        for fewer in range(beats):
            told = run_source(program, fewer)
            self.assertEqual(told[0], "spent")
            self.assertEqual(told[1], letters[:len(told[1])])
            self.assertEqual(len(told), 2)

    def test_each_form(self):
        self.ends("7", 7)
        self.ends("- 2147483648", -2147483648)
        self.ends("if 0 then 1 else 2", 2)
        self.ends("if 1 then 1 else 2", 1)
        self.ends("if - 1 then 1 else 2", 1)
        self.ends("let x = 3 in x * x", 9)
        self.ends("let ( x , y ) = ( 10 , 3 ) in x - y", 7)
        self.ends("let ( ) = ( ) in 1", 1)
        self.ends("fun f ( x , y ) = x - y in f ( 5 , 3 )", 2, (), 1)
        self.ends("fun f ( ) = 5 in f ( )", 5, (), 1)
        self.ends("( fn ( x , y ) x - y ) ( 5 , 3 )", 2, (), 1)
        self.ends("data d = A | B ( int , int ) ; match B ( 7 , 2 ) { A -> 0 | B ( x , y ) -> x - y }", 5)
        self.ends("data d = A | B ( int , int ) ; match A { A -> 0 | B ( x , y ) -> x - y }", 0)
        self.ends("get cell 3", 3)
        self.ends("let c = cell 3 in c := 4 ; get c", 4)
        self.ends("say 3 ; 4", 4, (3,))
        self.ends("let x = say 3 in x ; 4", 4, (3,))

    def test_sums(self):
        for sign, wanted in [("+", 9), ("-", 5), ("*", 14), ("<", 0), ("=", 0)]:
            self.ends("7 %s 2" % sign, wanted)
        self.ends("2 < 7", 1)
        self.ends("2 < 2", 0)
        self.ends("2 = 2", 1)
        self.ends("- 1 < 0", 1)
        self.ends("2147483647 + 1", -2147483648)
        self.ends("- 2147483648 - 1", 2147483647)
        self.ends("65536 * 65536", 0)
        self.ends("65536 * 32768", -2147483648)
        self.ends("2147483647 * 2147483647", 1)
        self.ends("- 2147483648 * - 1", -2147483648)
        self.ends("0 - - 2147483648", -2147483648)
        self.ends("46341 * 46341", 46341 ** 2 - 2 ** 32)
        self.ends("let x = 2147483647 + 1 in x < 0", 1)

    def test_letters_in_their_sequence(self):
        said = "( fn ( x ) say x ; x )"
        self.ends("%s ( 1 ) + %s ( 2 )" % (said, said), 3, (1, 2), 2)
        self.ends("%s ( 1 ) < %s ( 2 )" % (said, said), 1, (1, 2), 2)
        self.ends("let ( x , y , z ) = ( %s ( 1 ) , %s ( 2 ) , %s ( 3 ) ) in z" % (said, said, said), 3, (1, 2, 3), 3)
        self.ends("( say 1 ; fn ( x , y ) say 4 ; x ) ( %s ( 2 ) , %s ( 3 ) )" % (said, said), 2, (1, 2, 3, 4), 3)
        self.ends("if %s ( 0 ) then %s ( 1 ) else %s ( 2 )" % (said, said, said), 2, (0, 2), 2)
        self.ends("if %s ( 5 ) then %s ( 1 ) else %s ( 2 )" % (said, said, said), 1, (5, 1), 2)
        self.ends("( say 1 ; cell 0 ) := ( say 2 ; 7 ) ; 3", 3, (1, 2))
        self.ends("let x = say 1 in say 2 ; say 3 ; 4", 4, (1, 2, 3))
        self.ends("data d = A ( int , int ) ; match A ( %s ( 1 ) , %s ( 2 ) ) { A ( x , y ) -> %s ( y - x ) }" % (said, said, said),
                  1, (1, 2, 1), 3)
        self.ends("say ( say 1 ; 2 ) ; get cell ( say 3 ; 4 )", 4, (1, 2, 3))
        self.ends("let f = fn ( ) say 9 ; 1 in 2", 2)

    def test_a_call_with_its_terms_done_when_no_beat_is_left(self):
        program = source_told("( say 1 ; fn ( x ) say 3 ; x ) ( say 2 ; 7 )")
        self.assertEqual(run_source(program, 0), ("spent", (1, 2)))
        self.assertEqual(run_source(program, 1), ("done", 7, (1, 2, 3)))
        program = source_told("fun f ( x ) = say x ; f ( x + 1 ) in f ( 0 )")
        for beats in range(8):
            self.assertEqual(run_source(program, beats), ("spent", tuple(range(beats))))
        program = source_told("fun f ( x ) = say x ; x in f ( f ( 1 ) + f ( 2 ) )")
        self.assertEqual([run_source(program, beats) for beats in range(5)],
                         [("spent", ()), ("spent", (1,)), ("spent", (1, 2)), ("done", 3, (1, 2, 3)), ("done", 3, (1, 2, 3))])

    def test_cells_that_two_names_lead_to(self):
        self.ends("let c = cell 1 in let d = c in d := 5 ; get c", 5)
        self.ends("let c = cell 1 in let d = cell 1 in d := 5 ; get c", 1)
        self.ends("let c = cell 1 in let r = ( c , c ) in let ( a , b ) = r in a := 2 ; b := get a + 1 ; get c", 3)
        self.ends("let c = cell 1 in fun f ( ) = c := get c + 1 in f ( ) ; f ( ) ; get c", 3, (), 2)
        self.ends("let c = cell ( cell 1 ) in let d = get c in c := cell 7 ; d := 2 ; get d * 10 + get get c", 27)
        self.ends("data d = D ( cell int ) ; let c = cell 1 in let x = D ( c ) in c := 8 ; match x { D ( e ) -> get e }", 8)

    def test_loops_through_a_cell(self):
        text = "let c = cell ( fn ( x ) x ) in c := ( fn ( x ) if x then say x ; ( get c ) ( x - 1 ) else 9 ) ; ( get c ) ( 3 )"
        self.ends(text, 9, (3, 2, 1), 4)

    def test_scopes(self):
        self.ends("let x = 1 in let f = fn ( ) x in let x = 2 in f ( ) + x * 10", 21, (), 1)
        self.ends("fun f ( f ) = f in f ( 3 )", 3, (), 1)
        self.ends("let x = 1 in let y = ( let x = 5 in x ) in x + y * 10", 51)
        self.ends("let x = 4 in ( fn ( x ) x + 1 ) ( x ) + x * 10", 45, (), 1)
        self.ends("data d = A ( int ) | B ; let x = 6 in ( match A ( 1 ) { A ( x ) -> x | B -> 0 } ) + x", 7)
        self.ends("fun f ( x ) = if x then x + f ( x - 1 ) else 0 in let f2 = f in let x = 9 in f2 ( 3 )", 6, (), 4)

    def test_datas(self):
        text = (LIST + "fun up ( n ) = if n then Cons ( n , up ( n - 1 ) ) else Nil in "
                "fun sum ( l ) = match l { Nil -> 0 | Cons ( x , r ) -> say x ; x + sum ( r ) } in sum ( up ( 4 ) )")
        self.ends(text, 10, (4, 3, 2, 1), 10)
        text = LIST + "fun map ( f , l ) = match l { Nil -> Nil | Cons ( x , r ) -> Cons ( f ( x ) , map ( f , r ) ) } in " \
            "match map ( fn ( x ) x * 2 , Cons ( 5 , Cons ( 6 , Nil ) ) ) { Nil -> 0 | Cons ( x , r ) -> x }"
        self.ends(text, 10, (), 5)

    def test_runs_of_thousands_of_calls(self):
        start = time.time()
        program = source_told("fun f ( n ) = if n then f ( n - 1 ) else 7 in f ( 19999 )")
        self.assertEqual(run_source(program, 20000), ("done", 7, ()))
        self.assertEqual(run_source(program, 19999), ("spent", ()))
        program = source_told("fun f ( n ) = if n then 1 + f ( n - 1 ) else 0 in f ( 19999 )")
        self.assertEqual(run_source(program, 20000), ("done", 19999, ()))
        text = (LIST + "fun up ( n , l ) = if n then up ( n - 1 , Cons ( n , l ) ) else l in "
                "fun sum ( l ) = match l { Nil -> 0 | Cons ( x , r ) -> x + sum ( r ) } in sum ( up ( 9000 , Nil ) )")
        self.assertEqual(run_source(source_told(text), 20000), ("done", 9000 * 9001 // 2, ()))
        program = source_told("fun f ( n ) = say n ; f ( n + 1 ) in f ( 0 )")
        self.assertEqual(run_source(program, 20000), ("spent", tuple(range(20000))))
        text = "let c = cell ( fn ( ) 0 ) in fun f ( n ) = if n then let old = get c in c := ( fn ( ) 1 + old ( ) ) ; f ( n - 1 ) else ( get c ) ( ) in f ( 9000 )"
        self.assertEqual(run_source(source_told(text), 20000), ("done", 9000, ()))
        self.assertLess(time.time() - start, 10)


class Errors(Case):
    def test_beats(self):
        program = source_told("1")
        for beats in (-1, True, None, "1", (), 1.0, [1], -10 ** 89):
            self.fails(InvalidCount, None, None, run_source, program, beats)
        self.assertEqual(run_source(program=program, beats=0), ("done", 1, ()))

    def test_found_s_errors_ahead_of_wrong_beats(self):
        for text, error, field, wanted in [
                ("x", Unknown, "word", "x"), ("fn ( x , x ) 1", Twice, "word", "x"), ("1 + ( )", Clash, "places", ((1,), ())),
                ("fun f ( a , b , c , d , e , g ) = ( fn ( v ) v , fn ( v ) v , fn ( v ) v ) in 1", TooMany, "count", 8),
                ("fun f ( x ) = let y = %s x in %s y in 1" % ("cell " * 9, "cell " * 10), Unfit, "place", ())]:
            self.fails(error, field, wanted, run_source, source_told(text), 5)
            self.fails(error, field, wanted, run_source, source_told(text), -1)

    def test_invalid_part_ahead_of_both(self):
        self.fails(InvalidPart, None, None, run_source, None, -1)
        self.fails(InvalidPart, None, None, run_source, ((), ("name", "in")), -1)


class Facts(Case):
    def test_alike_to_core(self):
        """If it is done within b beats, the core program is done alike within 2 * b, and the other way about within as many."""
        ends = 0
        for seed in range(300):
            program = Maker(seed).program(30)
            if not is_source(program):
                continue
            try:
                found(program)
            except CarriedError:
                continue
            core = to_core(program)
            for beats in (0, 1, 2, 3, 5, 8, 40):
                told = run_source(program, beats)
                try:
                    double, same = run_steps(core, 2 * beats), run_steps(core, beats)
                except TooMany:
                    continue
                if told[0] == "done":
                    self.assertEqual(double, told)
                    ends += 1
                else:
                    self.assertEqual(double[-1][:len(told[1])], told[1])
                if same[0] == "done":
                    self.assertEqual(told, same)
                else:
                    self.assertEqual(told[-1][:len(same[1])], same[1])
        self.assertGreater(ends, 300)

    def test_a_name_handed_on_takes_one_beat_more(self):
        program = source_told("fun f ( x ) = x in let g = f in g ( 5 )")
        self.assertEqual(run_source(program, 1), ("done", 5, ()))
        self.assertEqual(run_steps(to_core(program), 1), ("spent", ()))
        self.assertEqual(run_steps(to_core(program), 2), ("done", 5, ()))


if __name__ == "__main__":
    unittest.main()
