"""Source texts whose runs go through everything, with what they end with."""

from kindscarried.source_texts import source_told
from kindscarried.to_core import to_core

LIST = "data list ( a ) = Nil | Cons ( a , list ( a ) ) ; "
TEXTS = (
    ("7", 7, ()),
    ("1 + 2 * 3 - 10", -3, ()),
    ("2147483647 + 1", -2147483648, ()),
    ("- 2147483648 - 1", 2147483647, ()),
    ("65536 * 65536 + 65536 * 32768", -2147483648, ()),
    ("( 1 < 2 ) + ( 2 < 1 ) * 10 + ( 3 = 3 ) * 100 + ( 3 = 4 ) * 1000", 101, ()),
    ("say 1 ; say ( 1 + 1 ) ; let x = say 3 in 4 + 5", 9, (1, 2, 3)),
    ("( if 0 then 1 else 2 ) + ( if 5 then 10 else 20 )", 12, ()),
    ("if ( if 1 then 0 else 1 ) then say 1 ; 1 else say 2 ; ( if 3 then say 4 ; 5 else 6 )", 5, (2, 4)),
    ("fun f ( n ) = if n then say n ; f ( n - 1 ) else 7 in f ( 5 )", 7, (5, 4, 3, 2, 1)),
    ("fun f ( n ) = if n then let r = f ( n - 1 ) in say n ; n + r else 0 in f ( 5 )", 15, (1, 2, 3, 4, 5)),
    ("fun f ( n ) = if n < 2 then n else f ( n - 1 ) + f ( n - 2 ) in f ( 8 )", 21, ()),
    ("( fn ( x , y ) say x ; say y ; x - y ) ( ( say 1 ; 10 ) , ( say 2 ; 3 ) )", 7, (1, 2, 10, 3)),
    ("let f = ( say 1 ; fn ( x ) x + 1 ) in ( say 2 ; f ) ( say 3 ; 4 )", 5, (1, 2, 3)),
    ("let c = cell 1 in let d = c in d := get c + 4 ; c := get d * 2 ; say get d ; get c", 10, (10,)),
    ("let c = cell ( cell 1 ) in let d = get c in d := 5 ; ( get c ) := get d + 1 ; c := cell 9 ; get d + get get c", 15, ()),
    ("let ( a , b , c ) = ( 1 , ( 2 , 3 ) , ( ) ) in let ( d , e ) = b in a + d * e", 7, ()),
    ("fun twice ( f ) = fn ( x ) f ( f ( x ) ) in twice ( twice ( fn ( x ) say x ; x + 3 ) ) ( 1 )", 13, (1, 4, 7, 10)),
    ("fun id ( x ) = x in let f = id in let g = id in f ( g ( 3 ) ) + id ( id ) ( 4 )", 7, ()),
    ("fun pair ( x , y ) = ( y , x ) in let ( a , b ) = pair ( 1 , ( ) ) in let ( c , d ) = pair ( pair , 5 ) in c + b", 6, ()),
    ("fun loop ( n , k ) = if n then loop ( n - 1 , fn ( x ) say n ; k ( x + n ) ) else k ( 0 ) in loop ( 4 , fn ( x ) x )", 10, (1, 2, 3, 4)),
    ("let c = cell ( fn ( x ) x ) in c := ( fn ( x ) if x then say x ; ( get c ) ( x - 1 ) else 9 ) ; ( get c ) ( 3 )", 9, (3, 2, 1)),
    (LIST + "fun up ( n ) = if n then Cons ( n , up ( n - 1 ) ) else Nil in "
     "fun sum ( l ) = match l { Nil -> 0 | Cons ( x , r ) -> say x ; x + sum ( r ) } in sum ( up ( 4 ) )", 10, (4, 3, 2, 1)),
    (LIST + "fun map ( f , l ) = match l { Nil -> Nil | Cons ( x , r ) -> Cons ( f ( x ) , map ( f , r ) ) } in "
     "fun each ( l ) = match l { Nil -> 0 | Cons ( x , r ) -> say x ; each ( r ) } in "
     "each ( map ( fn ( x ) x * x , Cons ( 1 , Cons ( 2 , Cons ( 3 , Nil ) ) ) ) )", 0, (1, 4, 9)),
    ("data t = Leaf | Node ( t , int , t ) ; fun put ( t , n ) = match t { Leaf -> Node ( Leaf , n , Leaf ) | Node ( l , m , r ) -> "
     "if n < m then Node ( put ( l , n ) , m , r ) else Node ( l , m , put ( r , n ) ) } in "
     "fun all ( t ) = match t { Leaf -> 0 | Node ( l , m , r ) -> let a = all ( l ) in say m ; a + m + all ( r ) } in "
     "all ( put ( put ( put ( put ( Leaf , 5 ) , 2 ) , 8 ) , 3 ) )", 18, (2, 3, 5, 8)),
    ("fun even ( n ) = fn ( odd ) if n then odd ( n - 1 ) else 1 in let c = cell ( fn ( n ) 0 ) in "
     "let odd = fn ( n ) if n then even ( n - 1 ) ( get c ) else 0 in c := odd ; even ( 10 ) ( odd ) + 10 * even ( 7 ) ( odd )", 1, ()),
    ("fun f ( n ) = ( if n = 3 then 100 else ( if n then f ( n - 1 ) + 1 else 1 ) ) * 2 in f ( 5 )", 806, ()),
    ("data o ( a ) = None | Some ( a ) ; fun first ( a , b ) = match a { None -> b | Some ( x ) -> a } in "
     "match first ( None , first ( Some ( 4 ) , Some ( 5 ) ) ) { None -> 0 | Some ( x ) -> match first ( Some ( ( ) ) , None ) { None -> 1 | Some ( u ) -> x } }", 4, ()),
)

INT = ("int",)
PACK = ("some", ("row", (("var", 0), ("to", 0, (("var", 0),), INT))))


def counters():
    """A program of core that opens two hidden things of one kind, one behind the other."""
    def name(k):
        return ("name", k)

    def hide(names, start, step):
        cell = name(names + 1)
        deed = ("fun", 0, (("cell", INT),), INT, ("let", ("set", cell, ("sum", "add", ("get", cell), ("int", step))), ("get", cell)))
        return ("hide", ("cell", INT), ("row", (("cell", ("int", start)), deed)), PACK)

    again = ("call", ("part", name(0), 1), (), (("part", name(0), 0),))
    first = ("open", hide(0, 3, 1), ("let", again, ("let", ("say", name(1)), again)))
    # The second one is opened where the kind variable of the first one is out of scope again.
    second = ("let", first, ("let", hide(1, 10, 5), ("open", name(1), ("let", ("call", ("part", name(2), 1), (), (("part", name(2), 0),)),
              ("let", ("say", name(3)), ("sum", "take", name(3), name(0)))))))
    return second


def cores():
    """The list of (program of core, number, letters)."""
    rows = [(to_core(source_told(text)), number, letters) for text, number, letters in TEXTS]
    return rows + [(counters(), 10, (4, 15))]
