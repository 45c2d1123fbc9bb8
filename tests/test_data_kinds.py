import unittest

from kindscarried.data_kinds import carried_kind
from kindscarried.errors import TooMany
from kindscarried.kinds import CORE_WORDS, is_kind
from kindscarried.source import is_source
from kindscarried.source_texts import source_told
from tests.common import Case, nested

INT = ("int",)


def datas(text):
    program = source_told(text + " 1")
    assert is_source(program)
    return program[0]


def nodes(kind):
    if not isinstance(kind, tuple):
        return 0
    return int(bool(kind) and isinstance(kind[0], str)) + sum(nodes(inner) for inner in kind)


def depth(kind):
    if not isinstance(kind, tuple):
        return 0
    inner = max([0] + [depth(part) for part in kind])
    return inner + int(bool(kind) and isinstance(kind[0], str))


class Carried(Case):
    def told(self, text, kind, wanted):
        self.assertEqual(carried_kind(datas(text), kind), wanted)
        self.assertTrue(is_kind(9, wanted, CORE_WORDS))

    def test_without_datas(self):
        for kind, wanted in [(INT, INT), (("free", 3), ("free", 3)), (("open", 0), ("row", ())), (("open", 99), ("row", ())),
                             (("row", ()), ("row", ())), (("row", (INT, ("open", 1))), ("row", (INT, ("row", ())))),
                             (("cell", ("free", 0)), ("cell", ("free", 0))), (("fun", (), INT), ("to", 0, (), INT)),
                             (("fun", (INT, ("free", 1)), ("fun", (), ("open", 2))),
                              ("to", 0, (INT, ("free", 1)), ("to", 0, (), ("row", ()))))]:
            self.told("", kind, wanted)
        self.assertEqual(carried_kind(datas=(), kind=INT), INT)

    def test_lists(self):
        text = "data list ( a ) = Nil | Cons ( a , list ( a ) ) ;"

        def listed(kind):
            return ("rec", ("one", (("row", ()), ("row", (kind, ("var", 0))))))
        self.told(text, ("data", "list", (INT,)), listed(INT))
        self.told(text, ("data", "list", (("free", 2),)), listed(("free", 2)))
        self.told(text, ("data", "list", (("open", 2),)), listed(("row", ())))
        self.told(text, ("data", "list", (("data", "list", (INT,)),)), listed(listed(INT)))
        self.told(text, ("fun", (("data", "list", (INT,)),), INT), ("to", 0, (listed(INT),), INT))
        self.told(text, ("cell", ("row", (("data", "list", (INT,)), INT))), ("cell", ("row", (listed(INT), INT))))

    def test_one_and_many_options(self):
        self.told("data d = A ;", ("data", "d", ()), ("rec", ("one", (("row", ()),))))
        self.told("data d = A ( int ) | B | C ( int , int ) ;", ("data", "d", ()),
                  ("rec", ("one", (("row", (INT,)), ("row", ()), ("row", (INT, INT))))))

    def test_data_within_data(self):
        text = "data list ( a ) = Nil | Cons ( a , list ( a ) ) ; data rose ( a ) = Rose ( a , list ( rose ( a ) ) ) ;"
        self.told(text, ("data", "rose", (INT,)),
                  ("rec", ("one", (("row", (INT, ("rec", ("one", (("row", ()), ("row", (("var", 1), ("var", 0)))))))),))))
        self.told(text, ("data", "rose", (("data", "list", (("free", 0),)),)),
                  ("rec", ("one", (("row", (("rec", ("one", (("row", ()), ("row", (("free", 0), ("var", 0)))))),
                                            ("rec", ("one", (("row", ()), ("row", (("var", 1), ("var", 0)))))))),))))

    def test_parameters_go_to_other_datas_in_another_sequence(self):
        text = "data two ( a , b ) = Two ( b , a ) ; data d ( a , b ) = D ( two ( b , two ( a , int ) ) , d ( a , b ) ) ;"

        def two(a, b):
            return ("rec", ("one", (("row", (b, a)),)))
        self.told(text, ("data", "d", (("free", 0), ("free", 1))),
                  ("rec", ("one", (("row", (two(("free", 1), two(("free", 0), INT)), ("var", 0))),))))

    def test_a_parameter_hides_datas(self):
        text = "data a = A ( int ) ; data b ( a ) = B ( a ) ; data c ( c ) = C ( c ) ; data e ( b ) = E ( b , a ) ;"
        self.told(text, ("data", "b", (("row", ()),)), ("rec", ("one", (("row", (("row", ()),)),))))
        self.told(text, ("data", "c", (INT,)), ("rec", ("one", (("row", (INT,)),))))
        self.told(text, ("data", "e", (("row", ()),)),
                  ("rec", ("one", (("row", (("row", ()), ("rec", ("one", (("row", (INT,)),))))),))))

    def test_functions_cells_and_rows_in_options(self):
        text = "data d ( a ) = D ( fn ( a , d ( a ) ) cell ( a , d ( a ) ) , cell fn ( ) d ( a ) , ( ) ) ;"
        self.told(text, ("data", "d", (INT,)),
                  ("rec", ("one", (("row", (("to", 0, (INT, ("var", 0)), ("cell", ("row", (INT, ("var", 0))))),
                                            ("cell", ("to", 0, (), ("var", 0))), ("row", ()))),))))

    def test_own_variable_below_other_binders(self):
        text = ("data list ( a ) = Nil | Cons ( a , list ( a ) ) ; data opt ( a ) = None | Some ( a ) ;"
                "data d ( a ) = D ( opt ( ( list ( d ( a ) ) , d ( a ) ) ) , a ) ;")

        def opt(kind):
            return ("rec", ("one", (("row", ()), ("row", (kind,)))))

        def listed(kind):
            return ("rec", ("one", (("row", ()), ("row", (kind, ("var", 0))))))
        self.told(text, ("data", "d", (("cell", INT),)),
                  ("rec", ("one", (("row", (opt(("row", (listed(("var", 2)), ("var", 1)))), ("cell", INT))),))))


class Bounds(Case):
    def great(self, text, kind):
        self.fails(TooMany, "count", 200, carried_kind, datas(text), kind)

    def test_depth(self):
        self.assertEqual(depth(carried_kind((), nested("cell", 19, INT))), 20)
        self.great("", nested("cell", 20, INT))
        self.great("", nested("cell", 20, ("open", 0)))
        self.great("", nested("cell", 55, INT))
        text = "data d ( a ) = D ( a , int ) ;"
        self.assertEqual(depth(carried_kind(datas(text), nested("cell", 16, ("data", "d", (INT,))))), 20)
        self.great(text, nested("cell", 17, ("data", "d", (INT,))))
        self.assertEqual(depth(carried_kind(datas("data d = D ;"), nested("cell", 17, ("data", "d", ())))), 20)
        self.great("data d = D ;", nested("cell", 18, ("data", "d", ())))
        six = ("data", "d", (("data", "d", (("data", "d", (("data", "d", (("data", "d", (("data", "d", (INT,)),)),)),)),)),))
        self.assertEqual(depth(carried_kind(datas(text), six)), 19)
        self.great(text, ("data", "d", (six,)))
        self.assertEqual(depth(carried_kind((), ("fun", (), nested("cell", 18, INT)))), 20)
        self.great("", ("fun", (), nested("cell", 19, INT)))

    def test_depth_in_each(self):
        deep = nested("cell", 18, INT)
        text = "data d ( a ) = D ( int , a ) | E ( d ( a ) ) ; data e ( a , b ) = F ( fn ( b ) b , ( b , b ) , a ) ;"
        for kind in (("fun", (INT, deep), INT), ("fun", (), deep), ("row", (INT, deep)), ("cell", deep)):
            self.assertEqual(depth(carried_kind((), kind)), 20)
            self.great("", ("cell", kind))
        less = nested("cell", 16, INT)
        self.assertEqual(depth(carried_kind(datas(text), ("data", "d", (less,)))), 20)
        self.great(text, ("data", "d", (("cell", less),)))
        less = nested("cell", 15, INT)
        self.assertEqual(depth(carried_kind(datas(text), ("data", "e", (INT, less)))), 20)
        self.great(text, ("data", "e", (INT, ("cell", less))))
        # The variable of the data itself may be the deepest.
        text = "data d = D ( cell cell cell cell d ) ;"
        self.assertEqual(depth(carried_kind(datas(text), nested("cell", 12, ("data", "d", ())))), 20)
        self.great(text, nested("cell", 13, ("data", "d", ())))

    def test_nodes_of_each(self):
        text = "data d = D ( d , d , d ) ;"
        seven = carried_kind(datas(text), ("data", "d", ()))
        self.assertEqual(nodes(seven), 6)
        for kind, many in [(("data", "d", ()), 6), (INT, 1), (("open", 0), 1), (("free", 0), 1), (("cell", INT), 2), (("row", ()), 1),
                           (("fun", (), INT), 2), (("fun", (INT, INT), INT), 4), (("row", (INT, INT)), 3)]:
            whole = ("row", (kind,) + (INT,) * (199 - many))
            self.assertEqual(nodes(carried_kind(datas(text), whole)), 200)
            self.great(text, ("row", (kind,) + (INT,) * (200 - many)))

    def test_parameters_that_do_not_stand_in_it(self):
        text = "data d ( a ) = D ;"
        kind = ("data", "d", (nested("cell", 40, INT),))
        self.assertEqual(carried_kind(datas(text), kind), ("rec", ("one", (("row", ()),))))

    def test_nodes(self):
        self.assertEqual(nodes(carried_kind((), ("row", (INT,) * 199))), 200)
        self.great("", ("row", (INT,) * 200))
        self.great("", ("row", (("open", 0),) * 200))
        text = "data d ( a ) = D ( a , a ) ;"
        kind = ("row", (INT,) * 97)
        self.assertEqual(nodes(carried_kind(datas(text), ("data", "d", (kind,)))), 199)
        self.assertEqual(nodes(carried_kind(datas(text), ("row", (INT,) * 0 + (("data", "d", (kind,)),)))), 200)
        self.great(text, ("row", (("data", "d", (kind,)), INT)))
        self.great(text, ("data", "d", (("row", (INT,) * 98),)))

    def test_nodes_that_double(self):
        text = "data d0 ( a ) = A ( a , a , a , a , a , a ) ;"
        for k in range(1, 8):
            inner = "d%d ( a )" % (k - 1)
            for _ in range(3):
                inner = "d%d ( %s )" % (k - 1, inner)
            text += "data d%d ( a ) = %s ( %s ) ;" % (k, "ABCDEFGH"[k], " , ".join([inner] * 6))
        self.great(text, ("data", "d7", (INT,)))
        self.great(text, ("fun", (INT, ("data", "d7", (("data", "d7", (INT,)),))), INT))


if __name__ == "__main__":
    unittest.main()
