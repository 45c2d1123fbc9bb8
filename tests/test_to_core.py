import unittest

from kindscarried.core_looker import core_judged
from kindscarried.errors import CarriedError, Clash, TooMany, Twice, Unfit, Unknown
from kindscarried.finding import found
from kindscarried.source import is_source
from kindscarried.source_texts import source_told
from kindscarried.to_core import to_core
from tests.common import Case
from tests.random_programs import Maker

INT = ("int",)
NOTHING = ("row", ())
LIST = "data list ( a ) = Nil | Cons ( a , list ( a ) ) ; "


def name(k):
    return ("name", k)


def number(n):
    return ("int", n)


def part(k, i):
    return ("part", name(k), i)


class ToCore(Case):
    def told(self, text, wanted):
        core = to_core(source_told(text))
        self.assertEqual(core, wanted)
        self.assertIsNone(core_judged(core))

    def test_example(self):
        program = ((), ("fun", "f", ("x",), ("name", "x"), ("let", "g", ("name", "f"), ("call", ("name", "g"), (("int", 2),)))))
        self.assertEqual(to_core(program=program)[2][1], ("fun", 0, (INT,), INT, ("call", name(0), (INT,), (name(2),))))

    def test_forms_that_stay(self):
        self.told("- 5", number(-5))
        self.told("1 + 2 * 3", ("sum", "add", number(1), ("sum", "times", number(2), number(3))))
        self.told("1 - 2 < ( 3 = 4 )", ("sum", "less", ("sum", "take", number(1), number(2)), ("sum", "same", number(3), number(4))))
        self.told("let x = 1 in let y = x in x + y", ("let", number(1), ("let", name(0), ("sum", "add", name(0), name(1)))))
        self.told("let x = ( 1 , ( ) ) in 2", ("let", ("row", (number(1), NOTHING)), number(2)))
        self.told("get cell 1", ("get", ("cell", number(1))))
        self.told("let x = cell 1 := 2 in 3", ("let", ("set", ("cell", number(1)), number(2)), number(3)))
        self.told("let x = say 1 in 3", ("let", ("say", number(1)), number(3)))

    def test_if_and_then(self):
        self.told("if 1 then 2 else 3", ("when", number(1), number(3), number(2)))
        self.told("say 1 ; let x = 2 in x", ("let", ("say", number(1)), ("let", number(2), name(1))))

    def test_split(self):
        self.told("let z = 9 in let ( x , y ) = ( 1 , 2 ) in x + y + z",
                  ("let", number(9), ("let", ("row", (number(1), number(2))), ("let", part(1, 0), ("let", part(1, 1),
                   ("sum", "add", ("sum", "add", name(2), name(3)), name(0)))))))
        self.told("let ( ) = ( ) in let x = 1 in x", ("let", NOTHING, ("let", number(1), name(1))))

    def test_functions(self):
        self.told("( fn ( x , y ) y ) ( 1 , 2 )",
                  ("call", ("fun", 0, (INT, INT), INT, name(2)), (), (number(1), number(2))))
        self.told("let z = 3 in ( fn ( ) z ) ( )", ("let", number(3), ("call", ("fun", 0, (), INT, name(0)), (), ())))
        self.told("fun f ( n ) = if n then f ( n - 1 ) else 7 in f ( 3 )",
                  ("let", ("fun", 0, (INT,), INT, ("when", name(1), number(7), ("call", name(0), (), (("sum", "take", name(1), number(1)),)))),
                   ("call", name(0), (), (number(3),))))

    def test_functions_with_variables(self):
        self.told("fun f ( x , y ) = x in f ( 1 , ( ) )",
                  ("let", ("fun", 2, (("var", 0), ("var", 1)), ("var", 0), name(1)), ("call", name(0), (INT, NOTHING), (number(1), NOTHING))))

    def test_handed_on_with_several_words(self):
        self.told("let u = 0 in fun f ( x , y , z ) = y in let g = f in g ( 1 , 2 , ( ) )",
                  ("let", number(0), ("let", ("fun", 3, (("var", 0), ("var", 1), ("var", 2)), ("var", 1), name(3)),
                   ("let", ("fun", 0, (INT, INT, NOTHING), INT, ("call", name(1), (INT, INT, NOTHING), (name(3), name(4), name(5)))),
                    ("call", name(2), (), (number(1), number(2), NOTHING))))))

    def test_named_inside_their_own_body(self):
        # Called there it is handed its own variables, elsewhere it becomes a function without.
        self.told("fun f ( x ) = let g = f in g ( f ( x ) ) in f ( 1 )",
                  ("let", ("fun", 1, (("var", 0),), ("var", 0),
                           ("let", ("fun", 0, (("free", 0),), ("free", 0), ("call", name(0), (("free", 0),), (name(3),))),
                            ("call", name(2), (), (("call", name(0), (("free", 0),), (name(1),)),)))),
                   ("call", name(0), (INT,), (number(1),))))

    def test_functions_within_functions(self):
        self.told("fun f ( x ) = fun g ( y ) = ( x , y ) in g ( 1 ) in let z = f ( ( ) ) in 2",
                  ("let", ("fun", 1, (("var", 0),), ("row", (("var", 0), INT)),
                           ("let", ("fun", 1, (("var", 0),), ("row", (("free", 0), ("var", 0))), ("row", (name(1), name(3)))),
                            ("call", name(2), (INT,), (number(1),)))),
                   ("let", ("call", name(0), (NOTHING,), (NOTHING,)), number(2))))

    def test_handed_on_without_words(self):
        self.told("fun f ( ) = Nil in let g = f in 1".replace("fun", LIST + "fun", 1),
                  ("let", ("fun", 1, (), ("rec", ("one", (("row", ()), ("row", (("var", 1), ("var", 0)))))),
                           ("fold", self.listed(("free", 0)), ("tag", 0, self.one(("free", 0)), ("row", ())))),
                   ("let", ("fun", 0, (), self.listed(NOTHING), ("call", name(0), (NOTHING,), ())), number(1))))

    def listed(self, kind):
        return ("rec", ("one", (("row", ()), ("row", (kind, ("var", 0))))))

    def one(self, kind):
        return ("one", (("row", ()), ("row", (kind, self.listed(kind)))))

    def test_makes_and_matches(self):
        listed, one = self.listed(INT), self.one(INT)
        nil = ("fold", listed, ("tag", 0, one, ("row", ())))
        self.told(LIST + "let z = 5 in match Cons ( 1 , Nil ) { Nil -> z | Cons ( x , r ) -> x }",
                  ("let", number(5), ("match", ("unfold", ("fold", listed, ("tag", 1, one, ("row", (number(1), nil))))),
                                      (name(0), ("let", part(1, 0), ("let", part(1, 1), name(2)))))))

    def test_open_kinds_are_empty_rows(self):
        self.told(LIST + "let x = Nil in 1",
                  ("let", ("fold", self.listed(NOTHING), ("tag", 0, self.one(NOTHING), ("row", ()))), number(1)))
        self.told("let f = fn ( x ) x in 1", ("let", ("fun", 0, (NOTHING,), NOTHING, name(1)), number(1)))

    def test_names_that_hide_others(self):
        self.told("let x = 1 in let x = x + 1 in x", ("let", number(1), ("let", ("sum", "add", name(0), number(1)), name(1))))
        self.told("fun f ( f ) = f in f ( 1 )", ("let", ("fun", 1, (("var", 0),), ("var", 0), name(1)), ("call", name(0), (INT,), (number(1),))))
        self.told("fun f ( x ) = x in let f = 2 in f", ("let", ("fun", 1, (("var", 0),), ("var", 0), name(1)), ("let", number(2), name(1))))

    def test_lets_by(self):
        done = 0
        for seed in range(250):
            program = Maker(seed).program(30)
            if is_source(program):
                try:
                    found(program)
                except CarriedError:
                    continue
                self.assertIsNone(core_judged(to_core(program)))
                done += 1
        self.assertGreater(done, 150)

    def test_great_kinds_that_are_let_by(self):
        inner = "D ( " * 6 + "1" + " , 1 ) " * 6
        text = "data d ( a ) = D ( a , int ) ; fun f ( x ) = x in let x = f ( %s ) in let g = f in g ( 1 )" % inner
        self.assertIsNone(core_judged(to_core(source_told(text))))
        a = "let a = ( 1 , 1 , 1 , 1 , 1 , 1 ) in let b = ( a , a , a , a , a , a ) in let c = ( b , b , b , b ) in "
        self.assertIsNone(core_judged(to_core(source_told(a + "let d = ( c , ( a , a , a , ( 1 , 1 , 1 ) ) ) in 1"))))
        deep = "fun f ( x ) = let y = %s x in %s y in let z = f ( 1 ) in let h = f in 1" % ("cell " * 9, "cell " * 9)
        self.assertIsNone(core_judged(to_core(source_told(deep))))

    def test_errors_of_found(self):
        for text, error, field, wanted in [
                ("x", Unknown, "word", "x"), ("fn ( x , x ) 1", Twice, "word", "x"), ("1 + ( )", Clash, "places", ((1,), ())),
                ("fun f ( a , b , c , d , e , g ) = ( fn ( v ) v , fn ( v ) v , fn ( v ) v ) in 1", TooMany, "count", 8),
                ("fun f ( x ) = let y = %s x in %s y in 1" % ("cell " * 9, "cell " * 10), Unfit, "place", ())]:
            self.fails(error, field, wanted, to_core, source_told(text))


if __name__ == "__main__":
    unittest.main()
