import unittest

from kindscarried.core import evaluated, is_done, put_in, raised
from kindscarried.core_looker import core_kind
from kindscarried.kinds import filled
from tests.common import Case, nested
from tests.random_core import LIST, PACK, CoreMaker, terms_in

INT = ("int",)
NOTHING = ("row", ())
ONE = ("int", 1)
TWO = ("int", 2)
X = ("name", 0)
F = ("fun", 0, (INT,), INT, ("name", 1))


def name(k):
    return ("name", k)


def free(j):
    return ("free", j)


class Evaluated(Case):
    FORMS = (
        (ONE, ()), (X, ()), (("sum", "add", ONE, X), ((2,), (3,))), (("when", X, ONE, TWO), ((1,),)), (("let", ONE, X), ((1,),)),
        (("fun", 1, (INT, INT), INT, ("sum", "add", ONE, TWO)), ()), (("call", F, (INT,), ()), ((1,),)),
        (("call", F, (), (ONE, X)), ((1,), (3, 0), (3, 1))), (NOTHING, ()), (("row", (ONE, X, TWO)), ((1, 0), (1, 1), (1, 2))),
        (("part", X, 3), ((1,),)), (("tag", 0, ("one", (INT,)), ONE), ((3,),)), (("match", X, ()), ((1,),)),
        (("match", X, (ONE, TWO)), ((1,),)), (("cell", X), ((1,),)), (("get", X), ((1,),)), (("set", X, ONE), ((1,), (2,))),
        (("fold", LIST, X), ((2,),)), (("unfold", X), ((1,),)), (("hide", INT, X, PACK), ((2,),)), (("open", X, ONE), ((1,),)),
        (("say", X), ((1,),)), (("spot", 4), ()),
    )

    def test_each_form(self):
        self.assertEqual(len({term[0] for term, _ in self.FORMS}), 20)
        for term, places in self.FORMS:
            self.assertEqual(evaluated(term), places)
            self.assertEqual(evaluated(term=term), places)
            self.assertIsInstance(evaluated(term), tuple)

    def test_done(self):
        done = {"int", "spot", "fun"}
        carried = {"row", "tag", "fold", "hide"}
        for term, places in self.FORMS:
            if term[0] in carried:
                alone = not any(part == X for _, part in terms_in(term))
            else:
                alone = term[0] in done
            self.assertIs(is_done(term), alone, term)
            for around in (lambda t: ("row", (ONE, t, ONE)), lambda t: ("tag", 0, ("one", (INT,)), t), lambda t: ("fold", LIST, t),
                           lambda t: ("hide", INT, t, PACK), lambda t: ("row", (("row", (t,)), ("spot", 0)))):
                self.assertIs(is_done(around(term)), alone)
            self.assertIs(is_done(("fun", 0, (), INT, term)), True)
            for around in (lambda t: ("cell", t), lambda t: ("let", t, ONE), lambda t: ("say", t), lambda t: ("part", t, 0)):
                self.assertIs(is_done(around(term)), False)
        self.assertIs(is_done(term=ONE), True)

    def test_deep(self):
        self.assertIs(is_done(nested("row", 0, ONE)), True)
        deep = ONE
        for _ in range(60):
            deep = ("row", (deep,))
        self.assertIs(is_done(deep), True)
        deep = ("unfold", ONE)
        for _ in range(60):
            deep = ("row", (deep,))
        self.assertIs(is_done(deep), False)


class Raised(Case):
    TERM = ("let", ("row", (name(0), name(3))), ("fun", 1, (free(0), ("var", 0)), free(2),
            ("open", name(4), ("hide", free(1), ("call", name(8), (free(4), ("some", ("row", (free(3), ("var", 0))))), (name(5),)), PACK))))

    def test_without_floors(self):
        self.assertEqual(raised(self.TERM, 0, 0), self.TERM)
        self.assertEqual(raised(self.TERM, 2, 0)[1], ("row", (name(2), name(5))))
        self.assertEqual(raised(self.TERM, 2, 10),
                         ("let", ("row", (name(2), name(5))), ("fun", 1, (free(10), ("var", 0)), free(12),
                          ("open", name(6), ("hide", free(11), ("call", name(10), (free(14), ("some", ("row", (free(13), ("var", 0))))), (name(7),)), PACK)))))

    def test_floors(self):
        self.assertEqual(raised(term=self.TERM, names=5, kinds=7, name_floor=4, kind_floor=2),
                         ("let", ("row", (name(0), name(3))), ("fun", 1, (free(0), ("var", 0)), free(9),
                          ("open", name(9), ("hide", free(1), ("call", name(13), (free(11), ("some", ("row", (free(10), ("var", 0))))), (name(10),)), PACK)))))
        self.assertEqual(raised(name(3), 1, 0, 4), name(3))
        both = ("fold", ("rec", ("row", (free(1),))), name(0))
        self.assertEqual(raised(both, 1, 0), ("fold", ("rec", ("row", (free(1),))), name(1)))
        self.assertEqual(raised(both, 0, 1), ("fold", ("rec", ("row", (free(2),))), name(0)))
        self.assertEqual(raised(both, 1, 1), ("fold", ("rec", ("row", (free(2),))), name(1)))
        self.assertEqual(raised(name(4), 1, 0, 4), name(5))
        self.assertEqual(raised(name(4), 1, 0), name(5))
        self.assertEqual(raised(("fold", ("rec", free(1)), name(0)), 0, 2, 0, 2), ("fold", ("rec", free(1)), name(0)))
        self.assertEqual(raised(("fold", ("rec", free(1)), name(0)), 0, 2, 0, 1), ("fold", ("rec", free(3)), name(0)))
        self.assertEqual(raised(("fold", ("rec", free(1)), name(0)), 0, 2, 5), ("fold", ("rec", free(3)), name(0)))

    def test_each_form(self):
        one = ("one", (free(0),))
        for term, wanted in [
                (ONE, ONE), (("spot", 3), ("spot", 3)), (("sum", "less", name(0), name(1)), ("sum", "less", name(1), name(2))),
                (("when", name(0), name(1), name(2)), ("when", name(1), name(2), name(3))), (("part", name(0), 7), ("part", name(1), 7)),
                (("tag", 5, one, name(0)), ("tag", 5, ("one", (free(2),)), name(1))),
                (("match", name(0), (name(1), name(2))), ("match", name(1), (name(2), name(3)))), (("cell", name(0)), ("cell", name(1))),
                (("get", name(0)), ("get", name(1))), (("set", name(0), name(1)), ("set", name(1), name(2))),
                (("unfold", name(0)), ("unfold", name(1))), (("say", name(0)), ("say", name(1))),
                (("fold", ("rec", one), name(0)), ("fold", ("rec", ("one", (free(2),))), name(1)))]:
            self.assertEqual(raised(term, 1, 2), wanted)

    def test_one_kind_in_a_greater_scope(self):
        """Fact C1: raised, it has the same kind, raised."""
        done = 0
        for seed in range(200):
            maker = CoreMaker(seed)
            names = tuple(maker.kind(2) for _ in range(3))
            kind = maker.kind(2)
            term = maker.term(kind, 2, names, 20)
            if term is None:
                continue
            self.assertEqual(core_kind(2, names, term), kind)
            more = tuple(maker.kind(1) for _ in range(2))
            up = (free(1), free(2))
            # One kind variable and two names more, outermost.
            around = more + tuple(filled(other, up) for other in names)
            self.assertEqual(core_kind(3, around, raised(term, 2, 1)), filled(kind, up))
            # As many, behind those in scope.
            self.assertEqual(core_kind(3, names + more, raised(term, 2, 1, 3, 2)), kind)
            done += 1
        self.assertGreater(done, 100)


class PutIn(Case):
    def test_names_and_kinds(self):
        self.assertEqual(put_in(name(0), (), (ONE,)), ONE)
        self.assertEqual(put_in(name(1), (), (ONE, TWO)), TWO)
        self.assertEqual(put_in(term=("row", (name(1), name(0))), kinds=(), things=(ONE, TWO)), ("row", (TWO, ONE)))
        self.assertEqual(put_in(("fold", ("rec", ("row", (free(1), free(0)))), name(0)), (INT, NOTHING), (ONE,)),
                         ("fold", ("rec", ("row", (NOTHING, INT))), ONE))
        self.assertEqual(put_in(ONE, (), ()), ONE)

    def test_names_bound_within_are_counted_anew(self):
        self.assertEqual(put_in(("let", name(0), ("sum", "add", name(0), name(2))), (), (ONE, TWO)),
                         ("let", ONE, ("sum", "add", ONE, name(0))))
        self.assertEqual(put_in(("match", name(1), (name(2), ("let", name(2), name(3)))), (), (ONE, TWO)),
                         ("match", TWO, (name(0), ("let", name(0), name(1)))))

    def test_below_functions_with_kinds(self):
        thing = ("fun", 1, (("var", 0),), ("var", 0), ("let", ("fold", ("rec", ("row", (free(0),))), name(1)), name(2)))
        term = ("fun", 2, (free(0), ("var", 1)), free(0), ("call", name(0), (free(2), free(0)), (name(1), name(2), name(3))))
        self.assertEqual(put_in(term, (INT,), (thing,)),
                         ("fun", 2, (INT, ("var", 1)), INT,
                          ("call", ("fun", 1, (("var", 0),), ("var", 0), ("let", ("fold", ("rec", ("row", (free(2),))), name(4)), name(5))),
                           (free(1), INT), (name(0), name(1), name(2)))))

    def test_below_lets_opens_and_matches(self):
        thing = ("fun", 0, (INT,), INT, name(1))

        def up(names):
            return ("fun", 0, (INT,), INT, name(1 + names))
        self.assertEqual(put_in(("let", ONE, ("row", (name(0), name(1)))), (), (thing,)), ("let", ONE, ("row", (up(1), name(0)))))
        self.assertEqual(put_in(("open", name(0), ("row", (name(0), name(1)))), (), (thing,)), ("open", thing, ("row", (up(1), name(0)))))
        self.assertEqual(put_in(("match", name(0), (name(0), name(1))), (), (thing,)), ("match", thing, (up(1), name(0))))
        self.assertEqual(put_in(("let", ONE, ("let", name(1), ("row", (name(0), name(2))))), (), (thing,)),
                         ("let", ONE, ("let", name(0), ("row", (up(2), name(1))))))
        self.assertEqual(put_in(("when", name(0), name(0), name(0)), (), (thing,)), ("when", thing, thing, thing))
        hidden = ("fun", 1, (("var", 0),), INT, ("hide", free(0), name(1), ("some", ("var", 0))))
        self.assertEqual(put_in(("open", ONE, name(0)), (INT,), (hidden,)),
                         ("open", ONE, ("fun", 1, (("var", 0),), INT, ("hide", free(1), name(2), ("some", ("var", 0))))))

    def test_kinds_bound_within_are_counted_anew(self):
        term = ("open", name(0), ("open", name(1), ("hide", ("row", (free(0), free(1), free(2), free(3))), name(0), PACK)))
        self.assertEqual(put_in(term, (INT, NOTHING), (ONE,)),
                         ("open", ONE, ("open", name(0), ("hide", ("row", (INT, NOTHING, free(0), free(1))), ONE, PACK))))

    def test_one_kind_with_kinds_and_things_put_in(self):
        """Fact C1: it is of its kind with the kinds put in."""
        done = 0
        for seed in range(400):
            maker = CoreMaker(seed)
            names = tuple(maker.kind(2) for _ in range(3))
            kind = maker.kind(2)
            term = maker.term(kind, 2, names, 20)
            kinds = tuple(maker.kind(0, 1) for _ in range(2))
            things = tuple(done_thing(filled(other, kinds), maker) for other in names)
            if term is None or None in things:
                continue
            put = put_in(term, kinds, things)
            self.assertEqual(core_kind(0, (), put), filled(kind, kinds))
            done += 1
        self.assertGreater(done, 100)


def done_thing(kind, maker):
    for _ in range(5):
        thing = maker.plain(kind, 0, (), 0)
        if thing is not None and is_done(thing):
            return thing
    return None


if __name__ == "__main__":
    unittest.main()
