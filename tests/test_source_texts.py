import random
import unittest

from kindscarried.errors import InvalidText, TooMany
from kindscarried.source import is_source
from kindscarried.source_texts import source_text, source_told
from tests import earley
from tests.common import STRANGE, Case, nested
from tests.random_programs import DATAS, Maker

ONE = ("int", 1)
X = ("name", "x")


def name(word):
    return ("name", word)


def add(a, b):
    return ("sum", "add", a, b)


class Told(Case):
    def both(self, text, term, datas=()):
        """The text tells this program, and is the one of it."""
        self.assertEqual(source_told(text), (datas, term))
        self.assertEqual(source_text((datas, term)), text)

    def test_examples(self):
        term = ("call", ("fn", ("x",), ("sum", "times", add(X, ONE), ("int", -2))), (("int", 3),))
        self.both("( fn ( x ) ( x + 1 ) * - 2 ) ( 3 )", term)
        self.fails(InvalidText, "index", 4, source_told, "1 + 007")
        self.assertEqual(source_told(text="1"), ((), ONE))
        self.assertEqual(source_text(program=((), ONE)), "1")

    def test_each_form(self):
        y, z = name("y"), name("z")
        for text, term in [
                ("0", ("int", 0)), ("2147483647", ("int", 2147483647)), ("- 2147483648", ("int", -2147483648)), ("- 1", ("int", -1)),
                ("x", X), ("x + y", add(X, y)), ("x - y", ("sum", "take", X, y)), ("x * y", ("sum", "times", X, y)),
                ("x < y", ("sum", "less", X, y)), ("x = y", ("sum", "same", X, y)), ("x := y", ("set", X, y)),
                ("if x then y else z", ("if", X, y, z)), ("let x = y in z", ("let", "x", y, z)),
                ("let ( ) = y in z", ("split", (), y, z)), ("let ( x , y ) = z in x", ("split", ("x", "y"), z, X)),
                ("fun f ( ) = x in y", ("fun", "f", (), X, y)), ("fun f ( x , y ) = x in y", ("fun", "f", ("x", "y"), X, y)),
                ("fn ( ) x", ("fn", (), X)), ("fn ( x ) x", ("fn", ("x",), X)), ("x ( )", ("call", X, ())),
                ("x ( y , z )", ("call", X, (y, z))), ("( )", ("row", ())), ("( x , y )", ("row", (X, y))), ("A", ("make", "A", ())),
                ("A ( x )", ("make", "A", (X,))), ("match x { A -> y }", ("match", X, (("A", (), y),))),
                ("match x { A ( y , z ) -> y | B -> z }", ("match", X, (("A", ("y", "z"), y), ("B", (), z)))),
                ("cell x", ("cell", X)), ("get x", ("get", X)), ("say x", ("say", X)), ("x ; y", ("then", X, y))]:
            self.both(text, term)

    def test_datas(self):
        a = ("word", "a", ())
        self.both("data d = A ; 1", ONE, (("d", (), (("A", ()),)),))
        self.both("data d ( a ) = A ( a , d ( a ) ) | B | C ( int ) ; data e = D ; 1", ONE,
                  (("d", ("a",), (("A", (a, ("word", "d", (a,)))), ("B", ()), ("C", (("int",),)))), ("e", (), (("D", ()),))))
        self.both("data d ( a , b ) = A ( fn ( ) a , fn ( a , int ) fn ( a ) int , ( ) , ( a , int ) , cell cell a ) ; 1", ONE,
                  (("d", ("a", "b"), (("A", (("fun", (), a), ("fun", (a, ("int",)), ("fun", (a,), ("int",))), ("row", ()),
                                            ("row", (a, ("int",))), ("cell", ("cell", a)))),)),))

    def test_brackets_where_told(self):
        y, z = name("y"), name("z")
        less, put = ("sum", "less", X, y), ("set", X, y)
        let, then, fn = ("let", "x", ONE, X), ("then", X, y), ("fn", (), X)
        for text, term in [
                ("x + y + z", add(add(X, y), z)), ("x + ( y + z )", add(X, add(y, z))), ("x - y + z", add(("sum", "take", X, y), z)),
                ("x - ( y - z )", ("sum", "take", X, ("sum", "take", y, z))),
                ("x * y * z", ("sum", "times", ("sum", "times", X, y), z)), ("x * ( y * z )", ("sum", "times", X, ("sum", "times", y, z))),
                ("x + y * z", add(X, ("sum", "times", y, z))), ("( x + y ) * z", ("sum", "times", add(X, y), z)),
                ("x + y < z", ("sum", "less", add(X, y), z)), ("x < y + z", ("sum", "less", X, add(y, z))),
                ("( x < y ) < z", ("sum", "less", less, z)), ("x = ( x < y )", ("sum", "same", X, less)), ("( x < y ) + 1", add(less, ONE)),
                ("( x := y ) ; z", None), ("x := y ; z", ("then", put, z)), ("( x ; y ) ; z", ("then", then, z)),
                ("x ; y ; z", ("then", X, ("then", y, z))), ("( let x = 1 in x ) ; z", ("then", let, z)),
                ("z ; let x = 1 in x", ("then", z, let)), ("( let x = 1 in x ) + z", add(let, z)), ("z + ( let x = 1 in x )", add(z, let)),
                ("let y = let x = 1 in x in z", ("let", "y", let, z)), ("let y = x ; y in z", ("let", "y", then, z)),
                ("if x ; y then x ; y else x ; y", ("if", then, then, then)), ("( fn ( ) x ) ( )", ("call", fn, ())),
                ("x ( fn ( ) x , x ; y )", ("call", X, (fn, then))), ("( let x = 1 in x , z )", ("row", (let, z))),
                ("fn ( ) fn ( ) x", ("fn", (), fn)), ("cell get say x", ("cell", ("get", ("say", X)))),
                ("cell x ( y )", ("cell", ("call", X, (y,)))), ("( cell x ) ( y )", ("call", ("cell", X), (y,))),
                ("( get x ) ( y )", ("call", ("get", X), (y,))), ("( say x ) ( y )", ("call", ("say", X), (y,))),
                ("say x ( y )", ("say", ("call", X, (y,)))), ("get x ( y )", ("get", ("call", X, (y,)))),
                ("( x + y ) ( )", ("call", add(X, y), ())), ("( x * y ) ( )", ("call", ("sum", "times", X, y), ())),
                ("get x * say y", ("sum", "times", ("get", X), ("say", y))), ("say ( x := y )", ("say", put)), ("say ( x ; y )", ("say", then)),
                ("cell ( x + y )", ("cell", add(X, y))), ("cell x + y", add(("cell", X), y)), ("cell - 1", ("cell", ("int", -1))),
                ("- 1 ( x )", ("call", ("int", -1), (X,))), ("x - - 1", ("sum", "take", X, ("int", -1))),
                ("x ( y ) ( z )", ("call", ("call", X, (y,)), (z,))), ("( A ) ( )", ("call", ("make", "A", ()), ())),
                ("( A ) ( x )", ("call", ("make", "A", ()), (X,))), ("( A ) ( x ) ( )", ("call", ("call", ("make", "A", ()), (X,)), ())),
                ("A ( x ) ( y )", ("call", ("make", "A", (X,)), (y,))), ("A + A", add(("make", "A", ()), ("make", "A", ()))),
                ("x ( A )", ("call", X, (("make", "A", ()),))), ("( ) ( )", ("call", ("row", ()), ())),
                ("( x , y ) ( )", ("call", ("row", (X, y)), ())), ("match x { A -> y } ( z )", ("call", ("match", X, (("A", (), y),)), (z,))),
                ("match let x = 1 in x { A -> x ; y | B -> fn ( ) x }", ("match", let, (("A", (), then), ("B", (), fn)))),
                ("match A { A -> 1 }", ("match", ("make", "A", ()), (("A", (), ONE),))), ("x := y + z", ("set", X, add(y, z))),
                ("( x := y ) := z", ("set", put, z)), ("x := ( x = y )", ("set", X, ("sum", "same", X, y))),
                ("x < y ; z", ("then", less, z)), ("1 + ( if x then y else z )", add(ONE, ("if", X, y, z))),
                ("fun f ( ) = x ; y in x ; y", ("fun", "f", (), then, then)), ("let ( ) = x ; y in x ; y", ("split", (), then, then))]:
            if term is None:
                self.assertEqual(source_told(text), ((), ("then", put, z)))
            else:
                self.both(text, term)

    def test_needless_brackets(self):
        self.assertEqual(source_told("((((1))))"), ((), ONE))
        self.assertEqual(source_told("( ( x ) ) ( ( y ) )"), ((), ("call", X, (name("y"),))))
        self.assertEqual(source_told("((x)+(y))"), ((), add(X, name("y"))))
        self.assertEqual(source_told("(A)"), ((), ("make", "A", ())))

    def test_spaces(self):
        text = "data d(a)=A(a)|B;let(x,y)=(1,-2)in match A(x){A(z)->say z;get cell x-1|B->0*1}"
        program = source_told(text)
        self.assertEqual(source_told("  " + source_text(program).replace(" ", "   ") + " "), program)
        self.assertEqual(source_told(text.replace("in match", "in      match")), program)
        self.assertEqual(source_told("x:=y"), source_told("x := y"))
        self.assertEqual(source_told("1-1"), source_told("1 - 1"))
        self.assertEqual(source_told("1--1"), source_told("1 - - 1"))
        self.assertEqual(source_told("x=-1"), source_told("x = - 1"))
        self.assertEqual(source_told("x<-1"), source_told("x < - 1"))

    def test_words_that_begin_with_the_thirteen(self):
        self.assertEqual(source_told("letx"), ((), name("letx")))
        self.assertEqual(source_told("int1 + ints"), ((), add(name("int1"), name("ints"))))
        self.assertEqual(source_told("Int"), ((), ("make", "Int", ())))

    def test_told_of_text_of_programs(self):
        rng = random.Random(8)
        for seed in range(400):
            program = Maker(seed).program(25)
            if not is_source(program):
                continue
            text = source_text(program)
            self.assertEqual(source_told(text), program)
            self.assertNotIn("  ", text)
            self.assertEqual(text, text.strip())
            wide = "".join(sign if sign != " " else " " * rng.randrange(1, 4) for sign in text)
            self.assertEqual(source_told(wide), program)
            self.assertEqual(source_told(tight(text)), program)
            self.no_needless_brackets(text, program)

    def no_needless_brackets(self, text, program):
        pieces = text.split(" ")
        open_ones = []
        for index, piece in enumerate(pieces):
            if piece == "(":
                open_ones.append(index)
            if piece == ")":
                start = open_ones.pop()
                left = pieces[:start] + pieces[start + 1:index] + pieces[index + 1:]
                try:
                    other = source_told(" ".join(left))
                except (InvalidText, TooMany):
                    continue
                self.assertNotEqual(other, program, text)


def tight(text):
    """The text without the spaces that are not needed."""
    pieces = text.split(" ")
    out = pieces[0]
    for piece in pieces[1:]:
        joins = (out[-1].isalnum() and piece[0].isalnum()) or out[-1] + piece[0] in ("->", ":=")
        out += (" " if joins else "") + piece
    return out


class Wrong(Case):
    def wrong(self, text, index):
        self.fails(InvalidText, "index", index, source_told, text)

    def test_no_strings(self):
        for value in STRANGE + (b"1", ["1"], ("1",)):
            if not isinstance(value, str):
                self.wrong(value, 0)

        class Text(str):
            pass
        self.wrong(Text("1"), 0)
        self.fails(InvalidText, "index", 0, source_told, text=None)

    def test_signs_that_begin_no_piece(self):
        for sign in "!\"#$%&'./:>?@[\\]^_`~\t\n\r\x00\x7f":
            self.wrong(sign, 0)
            self.wrong("1 + " + sign, 4)
            self.wrong("1 " + sign, 2)
            self.wrong("1" + sign, 1)
            self.wrong("x" + sign, 1)
            self.wrong("1 1" + sign, 2)
        self.wrong("1 + \u00e9", 4)
        self.wrong("1\u00a0", 1)
        self.wrong("x : = 1", 2)
        self.wrong("1 > 2", 2)
        self.wrong("x:1", 1)
        self.wrong("x ->", 2)
        self.wrong("x - > y", 4)
        self.wrong("let x := 1 in x", 6)

    def test_letters_and_digits_that_are_no_piece(self):
        for piece in ("1a", "0a", "a_", "aB", "AB", "ABc", "abcdefghi", "Abcdefghi", "12x", "0x1", "xY", "iF", "lEt", "00", "01", "007",
                      "2147483649", "99999999999999999999", "1" * 3000):
            self.wrong(piece, 1 if piece == "a_" else 0)
            if piece != "a_":
                self.wrong("1 + " + piece, 4)
                self.wrong("1 " + piece, 2)
                self.wrong("(" + piece + ")", 1)

    def test_numbers(self):
        self.assertEqual(source_told("2147483647"), ((), ("int", 2147483647)))
        self.assertEqual(source_told("-2147483648"), ((), ("int", -2147483648)))
        self.wrong("2147483648", 0)
        self.wrong("1 - 2147483648", 4)
        self.wrong("1 + 2147483648", 4)
        self.assertEqual(source_told("1 - -2147483648"), ((), ("sum", "take", ONE, ("int", -2147483648))))
        self.wrong("-2147483649", 1)
        self.wrong("- 0", 2)
        self.wrong("1 - - 0", 6)
        self.assertEqual(source_told("1 - 0"), ((), ("sum", "take", ONE, ("int", 0))))
        self.wrong("- x", 2)
        self.wrong("-(1)", 1)
        self.wrong("- -1", 2)

    def test_a_piece_too_many(self):
        for text, index in [("1 2", 2), ("x y", 2), ("1 )", 2), ("( 1 ) )", 6), ("1 ; ; 1", 4), ("x A", 2), ("1 in 2", 2), ("1 ,", 2),
                            ("( 1 , , 2 )", 6), ("1 < 2 < 3", 6), ("x = y = z", 6), ("x := y := z", 7), ("1 + + 1", 4), ("1 * * 1", 4),
                            ("fn x 1", 3), ("fn ( x , ) 1", 9), ("let x y = 1 in 1", 6), ("let ( x ) = 1 in 1", 8),
                            ("let ( x , ) = 1 in 1", 10), ("( 1 , )", 6), ("f ( 1 , )", 8), ("A ( )", 4), ("A ( 1 , )", 8),
                            ("match x { }", 10), ("match x { A -> 1 | }", 19), ("match x { A ( ) -> 1 }", 14),
                            ("match x { A 1 }", 12), ("match x { a -> 1 }", 10), ("match { A -> 1 }", 6), ("if 1 then 2", 11),
                            ("if 1 else 2", 5), ("fun f = 1 in 1", 6), ("fun ( ) = 1 in 1", 4), ("fun f ( ) 1 in 1", 10),
                            ("data d ; 1", 7), ("data d = ; 1", 9), ("data d = a ; 1", 9), ("data d ( ) = A ; 1", 9),
                            ("data d = A ( ) ; 1", 13), ("data d = A | ; 1", 13), ("data d = A 1", 11), ("data D = A ; 1", 5),
                            ("data d = A ( ( int ) ) ; 1", 19), ("data d = A ( fn int ) ; 1", 16), ("data d = A ( d ( ) ) ; 1", 17),
                            ("data d = A ( cell ) ; 1", 18), ("data d = A ( get int ) ; 1", 13), ("data d = A ( 1 ) ; 1", 13),
                            ("data d = A ( B ) ; 1", 13), ("1 ; data d = A ; 1", 4), ("in", 0), ("then 1", 0), ("| 1", 0), ("= 1", 0),
                            ("-> 1", 0), ("cell", 4), ("cell in", 5), ("say say", 7), ("get ;", 4), ("let in = 1 in 1", 4),
                            ("let 1 = 1 in 1", 4), ("let X = 1 in 1", 4), ("fn ( X ) 1", 5), ("int", 0), ("int + 1", 0)]:
            self.wrong(text, index)

    def test_a_text_that_ends_too_early(self):
        texts = ["data d ( a ) = A ( a , fn ( int ) ( ) ) | B ; let ( x , y ) = ( 1 , - 2 ) in match A ( x ) "
                 "{ A ( z ) -> say z ; get cell x - 1 | B -> 0 * 1 }", "fun f ( x ) = x in if f ( 1 ) then fn ( ) 1 else x := 2"]
        for text in texts + ["", "   ", "1 +  "]:
            pieces = text.split(" ")
            for many in range(len(pieces)):
                early = " ".join(pieces[:many])
                try:
                    source_told(early)
                except InvalidText as error:
                    self.assertEqual(error.index, len(early), early)
        self.wrong("", 0)
        self.wrong("   ", 3)
        self.wrong("1 +  ", 5)
        self.wrong("let x = 1", 9)

    def test_one_member_more(self):
        def words(many):
            return " , ".join("w%d" % k for k in range(many))

        def rows(member, many, between):
            return (" %s " % between).join([member] * many)

        for around, most in [("fn ( %s ) 1", 6), ("fun f ( %s ) = 1 in 1", 6), ("let ( %s ) = 1 in 1", 6), ("f ( %s )", 6), ("( %s )", 6),
                             ("A ( %s )", 6), ("match x { A ( %s ) -> 1 }", 6), ("data d ( %s ) = A ; 1", 4)]:
            self.assertEqual(is_source(source_told(around % words(most))), True)
            text = around % words(most + 1)
            self.wrong(text, text.index(", w%d" % most))
        for around in ("data d = A ( %s ) ; 1", "data d = A ( fn ( %s ) int ) ; 1", "data d = A ( ( %s ) ) ; 1", "data d = A ( d ( %s ) ) ; 1"):
            self.assertEqual(is_source(source_told(around % rows("int", 6, ","))), True)
            text = around % rows("int", 7, ",")
            self.wrong(text, text.rindex(","))
        for around, member, between in [("data d = %s ; 1", "A", "|"), ("match x { %s }", "A -> 1", "|")]:
            self.assertEqual(is_source(source_told(around % rows(member, 6, between))), True)
            text = around % rows(member, 7, between)
            self.wrong(text, text.rindex(between))
        self.assertEqual(is_source(source_told("data d = A ; " * 8 + "1")), True)
        self.wrong("data d = A ; " * 9 + "1", 13 * 8)

    def test_whichever_comes_first(self):
        self.wrong("1 1 @", 2)
        self.wrong("1 + @ 1 1", 4)
        self.wrong("1 + ) @", 4)
        self.wrong("007 )", 0)
        self.wrong(") 007", 0)
        self.wrong("( 1 @", 4)

    def test_invalid_ahead_of_too_many(self):
        deep = "1 ; " * 30
        self.wrong(deep, 120)
        self.wrong(deep + "1 )", 122)
        self.wrong("data d = A ( cell cell cell cell cell int ) ; )", 46)
        self.wrong(deep + "1 @", 122)


class Bounds(Case):
    def too_many(self, text, count):
        self.fails(TooMany, "count", count, source_told, text)

    def test_written_kinds(self):
        self.assertTrue(is_source(source_told("data d = A ( cell cell cell cell int ) ; 1")))
        self.too_many("data d = A ( cell cell cell cell cell int ) ; 1", 5)
        self.too_many("data d = A | B ( int , fn ( ) fn ( ) fn ( ) fn ( ) fn ( ) int ) ; 1", 5)
        self.too_many("data d = A ; data e = B ( d ( d ( d ( d ( d ( d ) ) ) ) ) ) ; 1", 5)
        self.assertTrue(is_source(source_told("data e = B ( d ( d ( d ( d ( d ) ) ) ) ) ; 1")))
        self.too_many("data e = B ( ( int , ( int , ( int , ( int , ( ( ) , int ) ) ) ) ) ) ; 1", 5)

    def test_terms(self):
        self.assertTrue(is_source(source_told("say " * 19 + "1")))
        self.too_many("say " * 20 + "1", 20)
        self.assertTrue(is_source(source_told("( " * 300 + "say " * 19 + "1" + " )" * 300)))
        self.too_many("let ( x , y ) = 1 in " + "say " * 17 + "1", 20)
        self.assertTrue(is_source(source_told("let ( x , y ) = 1 in " + "say " * 16 + "1")))
        self.too_many("match 1 { A -> 1 | B ( x ) -> " + "say " * 18 + "1 }", 20)
        self.assertTrue(is_source(source_told("match 1 { A -> 1 | B ( x ) -> " + "say " * 17 + "1 }")))
        self.too_many("1" + " + 1" * 20, 20)

    def test_parts(self):
        def row(rows):
            return "( " + " , ".join(rows) + " )"
        five = row([row(["1"] * 6)] * 5)
        text = row([five] * 5 + [row(["1"] * 6)])
        program = source_told(text)
        self.assertTrue(is_source(program))
        parts = 1 + 5 * 36 + 7
        more = 200 - parts
        self.assertTrue(is_source(source_told("say " * more + text)))
        self.too_many("say " * (more + 1) + text, 200)
        self.too_many("fn ( a , b , c ) " * 3 + "say " + text, 200)
        self.assertTrue(is_source(source_told("fn ( a , b , c ) " * 3 + text)))

    def test_their_sequence(self):
        datas, deep = "data d = A ( cell cell cell cell cell int ) ; ", "say " * 20 + "1"
        many = "( " + " , ".join(["( " + " , ".join(["( 1 , 1 , 1 , 1 , 1 , 1 )"] * 6) + " )"] * 6) + " )"
        self.too_many(datas + deep, 5)
        self.too_many(datas + many, 5)
        self.too_many("( " + many + " , " + deep + " )", 20)
        self.too_many(many, 200)
        self.too_many("say " * 250 + "1", 20)

    def test_long_nests(self):
        self.assertEqual(source_told("(" * 14999 + "1" + ")" * 14999), ((), ONE))
        self.fails(InvalidText, "index", 30000, source_told, "(" * 30000)
        self.fails(InvalidText, "index", 29999, source_told, "(" * 14999 + "1" + ")" * 15000)
        self.fails(InvalidText, "index", 15000, source_told, "(" * 15000 + "+" + ")" * 14999)
        self.too_many("(1," * 5000 + "1" + ")" * 5000, 20)
        self.too_many("f(" * 9000 + "1" + ")" * 9000, 20)
        self.too_many("1;" * 14000 + "1", 20)
        self.too_many("say " * 7000 + "1", 20)
        self.too_many("1+" * 14000 + "1", 20)
        self.too_many("f" + "()" * 14000, 20)
        self.too_many("fn()" * 7000 + "1", 20)
        self.too_many("let x=1 in " * 2700 + "1", 20)
        self.too_many("let x=" * 2700 + "1" + " in 1" * 2700, 20)
        self.too_many("match " * 1500 + "1" + "{A->1}" * 1500, 20)
        self.too_many("if 1 then 1 else " * 1700 + "1", 20)
        self.fails(InvalidText, "index", 28000, source_told, "A(" * 14000)
        self.too_many("data d=A(" + "cell " * 5000 + "int);1", 5)
        self.too_many("data d=A(" + "(int," * 4000 + "int" + ")" * 4000 + ");1", 5)
        self.too_many("data d=A(" + "fn()" * 4000 + "int);1", 5)


class ByGrammar(Case):
    """The index of each wrong text is the one that the grammar alone tells."""

    SIGNS = ("(", ")", "{", "}", ",", ";", "|", "+", "-", "*", "->", "<", "=", ":=")
    WORDS = ("cell", "data", "else", "fn", "fun", "get", "if", "in", "int", "let", "match", "say", "then")

    def sort(self, piece):
        if piece in self.SIGNS or piece in self.WORDS:
            return piece
        if piece.isdigit():
            return {"0": "zero", "2147483648": "great"}.get(piece, "number")
        return "option" if piece[0].isupper() else "word"

    def look(self, pieces):
        text = " ".join(pieces)
        sorts = [self.sort(piece) for piece in pieces]
        viable = earley.viable(sorts)
        if viable < len(pieces):
            wanted = len(" ".join(pieces[:viable])) + (1 if viable else 0)
        else:
            wanted = None if earley.ends(sorts) else len(text)
        try:
            source_told(text)
            told = None
        except TooMany:
            told = None
        except InvalidText as error:
            told = error.index
        self.assertEqual(told, wanted, text)

    def test_changed_texts(self):
        rng = random.Random(11)
        every = self.SIGNS + self.WORDS + ("x", "A", "0", "1", "2147483648")
        done = 0
        for seed in range(1000):
            datas = rng.choice(((), DATAS[:1], DATAS[2:4]))
            program = (datas, Maker(seed).program(rng.choice((2, 5, 8)))[1])
            if not is_source(program):
                continue
            pieces = source_text(program).split(" ")
            if len(pieces) > 70:
                continue
            for _ in range(3):
                new = list(pieces)
                at = rng.randrange(len(new))
                roll = rng.randrange(4)
                if roll == 0:
                    del new[at]
                elif roll == 1:
                    new.insert(at, rng.choice(every))
                elif roll == 2:
                    new[at] = rng.choice(every)
                else:
                    new = new[:at] + new[rng.randrange(len(new)):]
                if new:
                    self.look(new)
                    done += 1
        self.assertGreater(done, 300)

    def test_short_texts(self):
        rng = random.Random(12)
        every = self.SIGNS + self.WORDS + ("x", "A", "0", "1", "2147483648")
        for one in every:
            self.look([one])
            for other in every:
                self.look([one, other])
        for _ in range(800):
            self.look([rng.choice(every) for _ in range(rng.randrange(3, 8))])


if __name__ == "__main__":
    unittest.main()
