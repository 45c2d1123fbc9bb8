import random
import unittest

from kindscarried.core_looker import core_judged, core_kind
from kindscarried.errors import IllKinded
from kindscarried.kinds import unfolded
from kindscarried.source import is_source
from kindscarried.to_core import to_core
from tests.common import STRANGE, Case, nested
from tests.random_core import LIST, PACK, PAIR, SAME, CoreMaker, terms_in, with_part
from tests.random_programs import Maker

INT = ("int",)
NOTHING = ("row", ())
ONE = ("int", 1)
UNIT = ("row", ())
BAD = ("name", 99)
FREE = ("free", 0)
VAR = ("var", 0)


def name(k):
    return ("name", k)


def row(*terms):
    return ("row", terms)


class LookerCase(Case):
    def kind(self, wanted, term, names=(), free=0, spots=()):
        self.assertEqual(core_kind(free, names, term, spots), wanted)

    def ill(self, place, term, names=(), free=0, spots=()):
        self.fails(IllKinded, "place", place, core_kind, free, names, term, spots)


class Rules(LookerCase):
    def test_examples(self):
        twice = ("fun", 1, (VAR,), ("row", (VAR, VAR)), row(name(1), name(1)))
        self.kind(("to", 1, (VAR,), ("row", (VAR, VAR))), twice)
        self.kind(("row", (INT, INT)), ("call", twice, (INT,), (("int", 7),)))
        self.ill((3, 1, 0), ("when", UNIT, ONE, row(("sum", "add", ONE, UNIT))))
        self.ill((), ("match", UNIT, (("name", 9),)))
        down = ("fun", 0, (INT,), INT, ("when", name(1), ("int", 5), ("call", name(0), (), (("sum", "take", name(1), ("say", ONE)),))))
        self.assertEqual(core_judged(("call", down, (), (("int", 2),))), (1, 4, 3, 3, 0))

    def test_by_names(self):
        self.assertEqual(core_kind(free=0, names=(INT,), term=name(0)), INT)
        self.assertEqual(core_kind(free=0, names=(), term=("spot", 0), spots=(INT,)), ("cell", INT))
        self.assertIsNone(core_judged(program=ONE))

    def test_ints_and_sums(self):
        self.kind(INT, ("int", -2 ** 31))
        for word in ("add", "take", "times", "less", "same"):
            self.kind(INT, ("sum", word, ONE, ONE))
        self.ill((), ("sum", "add", UNIT, ONE))
        self.ill((), ("sum", "add", ONE, UNIT))

    def test_names_and_spots(self):
        self.kind(FREE, name(1), (INT, FREE), 1)
        self.ill((), name(2), (INT, INT))
        self.ill((), name(0))
        self.kind(("cell", NOTHING), ("spot", 1), spots=(INT, NOTHING))
        self.ill((), ("spot", 2), spots=(INT, NOTHING))
        self.ill((), ("spot", 0))

    def test_whens_and_lets(self):
        self.kind(NOTHING, ("when", ONE, UNIT, UNIT))
        self.ill((), ("when", UNIT, ONE, ONE))
        self.ill((), ("when", ONE, ONE, UNIT))
        self.kind(INT, ("let", ONE, name(2)), (UNIT, UNIT))
        self.kind(("row", (NOTHING, INT)), ("let", UNIT, ("let", ONE, row(name(0), name(1)))))
        self.ill((1,), ("let", name(0), ONE))

    def test_funs(self):
        self.kind(("to", 0, (), INT), ("fun", 0, (), INT, ONE))
        self.kind(SAME, ("fun", 1, (VAR,), VAR, name(1)))
        self.kind(PAIR, ("fun", 2, (VAR, ("var", 1)), ("row", (("var", 1), VAR)), row(name(2), name(1))))
        self.kind(("to", 0, (FREE,), FREE), ("fun", 0, (FREE,), FREE, ("call", name(1), (), (name(2),))), (INT,), 1)
        self.kind(("to", 1, (FREE, VAR), ("row", (FREE, VAR))),
                  ("fun", 1, (FREE, VAR), ("row", (FREE, VAR)), ("call", name(1), (("free", 1),), (name(2), name(3)))), (INT,), 1)
        self.ill((), ("fun", 0, (), INT, UNIT))
        self.ill((), ("fun", 1, (VAR,), VAR, ONE))
        self.ill((), ("fun", 2, (VAR, ("var", 1)), VAR, name(2)))
        self.ill((4,), ("fun", 0, (), INT, name(1)))
        self.ill((4, 1), ("fun", 0, (INT,), INT, ("let", BAD, ONE)))
        self.kind(("to", 8, (("var", 7),), INT), ("fun", 8, (("var", 7),), INT, ONE))

    def test_calls(self):
        same = ("fun", 1, (VAR,), VAR, name(1))
        two = ("fun", 0, (INT, NOTHING), INT, name(1))
        self.kind(NOTHING, ("call", same, (NOTHING,), (UNIT,)))
        self.kind(INT, ("call", two, (), (ONE, UNIT)))
        self.ill((), ("call", ONE, (), ()))
        self.ill((), ("call", same, (), (ONE,)))
        self.ill((), ("call", same, (INT, INT), (ONE,)))
        self.ill((), ("call", two, (INT,), (ONE, UNIT)))
        self.ill((), ("call", same, (INT,), (UNIT,)))
        self.ill((), ("call", two, (), (ONE,)))
        self.ill((), ("call", two, (), (ONE, UNIT, ONE)))
        self.ill((), ("call", two, (), (UNIT, ONE)))
        self.ill((3, 1), ("call", two, (), (ONE, BAD)))
        self.ill((1,), ("call", BAD, (), (BAD,)))

    def test_kinds_handed_on_below_a_function(self):
        term = ("fun", 1, (VAR,), ("cell", VAR), ("call", ("fun", 1, (VAR,), ("cell", VAR), ("cell", name(3))), (FREE,), (name(1),)))
        self.kind(("to", 1, (VAR,), ("cell", VAR)), term)

    def test_rows_and_parts(self):
        self.kind(NOTHING, UNIT)
        self.kind(("row", (INT, NOTHING)), row(ONE, UNIT))
        self.kind(("row", (INT,)), row(ONE))
        self.kind(NOTHING, ("part", row(ONE, UNIT), 1))
        self.ill((), ("part", row(ONE, UNIT), 2))
        self.ill((), ("part", UNIT, 0))
        self.ill((), ("part", ONE, 0))
        self.ill((1, 1), row(ONE, BAD, BAD))

    def test_tags_and_matches(self):
        one = ("one", (INT, NOTHING))
        tag = ("tag", 1, one, UNIT)
        self.kind(one, tag)
        self.kind(one, ("tag", 0, one, ONE))
        self.ill((), ("tag", 0, one, UNIT))
        self.ill((), ("tag", 2, one, UNIT))
        self.ill((), ("tag", 0, INT, ONE))
        self.ill((), ("tag", 0, ("row", (INT,)), ONE))
        self.kind(INT, ("match", tag, (name(0), ONE)))
        self.kind(one, ("match", tag, (("tag", 0, one, name(0)), ("tag", 1, one, name(0)))))
        self.ill((), ("match", tag, (name(0),)))
        self.ill((), ("match", tag, (ONE, ONE, ONE)))
        self.ill((), ("match", tag, ()))
        self.ill((), ("match", row(ONE, ONE), (ONE, ONE)))
        self.ill((), ("match", UNIT, ()))
        self.ill((), ("match", tag, (ONE, UNIT)))
        self.ill((2, 1), ("match", tag, (ONE, name(1))))
        self.ill((2, 0), ("match", tag, (BAD, BAD)))
        self.ill((1,), ("match", BAD, (BAD,)))

    def test_cells(self):
        cell = ("cell", ONE)
        self.kind(("cell", INT), cell)
        self.kind(INT, ("get", cell))
        self.kind(NOTHING, ("set", cell, ONE))
        self.ill((), ("get", ONE))
        self.ill((), ("set", cell, UNIT))
        self.ill((), ("set", ONE, ONE))
        self.ill((2,), ("set", ONE, BAD))
        self.kind(NOTHING, ("get", ("spot", 0)), spots=(NOTHING,))

    def test_folds(self):
        kind = ("rec", ("cell", ("cell", VAR)))
        self.kind(LIST, ("fold", LIST, ("tag", 0, unfolded(LIST), UNIT)))
        self.kind(unfolded(LIST), ("unfold", name(0)), (LIST,))
        self.kind(("cell", ("cell", kind)), ("unfold", name(0)), (kind,))
        self.ill((), ("fold", LIST, UNIT))
        self.ill((), ("fold", LIST, name(0)), (LIST,))
        self.ill((), ("fold", INT, ONE))
        self.ill((), ("unfold", ONE))
        self.ill((2,), ("fold", INT, BAD))
        self.kind(("rec", INT), ("fold", ("rec", INT), ONE))

    def test_hides_and_opens(self):
        some = ("some", ("row", (VAR, ("to", 0, (VAR,), INT))))
        self.assertEqual(some, PACK)
        hide = ("hide", NOTHING, row(UNIT, ("fun", 0, (NOTHING,), INT, ONE)), some)
        self.kind(some, hide)
        self.kind(INT, ("open", hide, ("call", ("part", name(0), 1), (), (("part", name(0), 0),))))
        self.kind(("some", FREE), ("hide", INT, name(0), ("some", FREE)), (FREE,), 1)
        self.kind(("some", VAR), ("open", name(0), ("hide", ("free", 1), name(1), ("some", VAR))), (("some", VAR),), 1)
        self.kind(FREE, ("open", name(0), name(1)), (("some", FREE),), 1)
        self.ill((), ("hide", INT, row(UNIT, ("fun", 0, (NOTHING,), INT, ONE)), some))
        self.ill((), ("hide", INT, ONE, INT))
        self.ill((), ("hide", INT, ONE, ("rec", INT)))
        self.ill((), ("open", ONE, ONE))
        self.ill((), ("open", ONE, BAD))
        self.ill((1,), ("open", BAD, BAD))
        self.ill((), ("open", hide, name(0)))
        self.ill((), ("open", hide, ("part", name(0), 0)))
        self.ill((), ("open", hide, ("fun", 0, (FREE,), INT, ONE)))
        self.ill((2,), ("open", hide, ("call", ("part", name(0), 1), (), (UNIT,))))
        self.ill((2,), ("open", name(0), ("hide", ("free", 2), ONE, ("some", INT))), (("some", VAR),), 1)

    def test_says(self):
        self.kind(NOTHING, ("say", ONE))
        self.ill((), ("say", UNIT))
        self.ill((1,), ("say", BAD))


class Forms(LookerCase):
    GOOD = (
        ONE, name(0), ("sum", "add", ONE, ONE), ("when", ONE, ONE, ONE), ("let", ONE, ONE), ("fun", 0, (INT,), INT, ONE),
        ("call", ("fun", 1, (VAR,), VAR, name(2)), (INT,), (ONE,)), row(ONE, ONE), ("part", row(ONE, ONE), 1), ("tag", 0, ("one", (INT,)), ONE),
        ("match", ("tag", 0, ("one", (INT,)), ONE), (name(1),)), ("cell", ONE), ("get", ("cell", ONE)), ("set", ("cell", ONE), ONE),
        ("fold", ("rec", INT), ONE), ("unfold", ("fold", ("rec", INT), ONE)), ("hide", INT, ONE, ("some", VAR)),
        ("open", ("hide", INT, ONE, ("some", VAR)), ONE), ("say", ONE), ("spot", 0),
    )

    def test_each_form(self):
        self.assertEqual(len({term[0] for term in self.GOOD}), 20)
        for term in self.GOOD:
            core_kind(0, (INT,), term, (INT,))
            for wrong in (term + (ONE,), term[:-1], list(term), ("more",) + term[1:], (term[0].upper(),) + term[1:], (term,), term[1:]):
                self.ill((), wrong, (INT,), 0, (INT,))
                self.ill((1, 1), row(ONE, wrong, BAD), (INT,), 0, (INT,))

    def test_form_ahead_of_the_terms_within(self):
        for term in (("sum", "more", BAD, BAD), ("sum", "add", BAD), ("when", BAD, BAD), ("let", BAD, BAD, BAD), ("fun", 9, (), INT, BAD),
                     ("call", BAD, [], ()), ("call", BAD, (), [BAD]), ("call", BAD, (5,), ()), ("row", [BAD]), ("row", ONE[0]), ("part", BAD, -1),
                     ("tag", -1, ("one", (INT,)), BAD), ("tag", 0, 5, BAD), ("match", BAD, [ONE]), ("cell", BAD, BAD), ("fold", 5, BAD),
                     ("hide", 5, BAD, ("some", VAR)), ("hide", INT, BAD, 5), ("say",)):
            self.ill((1, 0), row(term, BAD))
            self.ill((), term)

    def test_numbers(self):
        for number in (2 ** 31, -2 ** 31 - 1, True, False, None, "1", 10 ** 89, (), (1,)):
            self.ill((), ("int", number))
        for index in (-1, True, False, None, "0", (0,), [0], 1.0):
            self.ill((), ("name", index), (INT, INT))
            self.ill((), ("spot", index), (), 0, (INT, INT))
            self.ill((), ("part", row(ONE, ONE), index))
            self.ill((), ("tag", index, ("one", (INT, INT)), ONE))
        self.ill((), ("name", 10 ** 89), (INT,))
        self.ill((), ("part", row(ONE), 10 ** 89))
        for n in (-1, 9, 10000, True, None, "0"):
            self.ill((), ("fun", n, (), INT, ONE))
        for word in ("more", "", None, ("add",), ["add"], 0, "+"):
            self.ill((), ("sum", word, ONE, ONE))

    def test_kinds(self):
        wrong = (None, 5, (), ("int", 1), ["int"], ("nothing",), ("not", 0, ()), ("room", ()), ("code", 0, ()), ("free", 1), ("free", -1),
                 VAR, ("some", ("var", 1)), ("rec", VAR), ("row", INT), ("row", [INT]), ("one", ()), ("to", 10001, (), INT),
                 ("cell", ("free", 1)), ("to", 0, (), ("not", 0, ())))
        for kind in wrong:
            self.ill((), ("fun", 0, (kind,), INT, BAD), (), 1)
            self.ill((), ("fun", 0, (), kind, BAD), (), 1)
            self.ill((), ("call", BAD, (kind,), ()), (), 1)
            self.ill((), ("call", BAD, (INT, kind), ()), (), 1)
            self.ill((), ("tag", 0, kind, BAD), (), 1)
            self.ill((), ("fold", kind, BAD), (), 1)
            self.ill((), ("hide", kind, BAD, ("some", VAR)), (), 1)
            self.ill((), ("hide", INT, BAD, kind), (), 1)
        self.ill((), ("fun", 1, (("var", 1),), INT, ONE))
        self.ill((), ("fun", 1, (), ("var", 1), ONE))
        self.ill((), ("fun", 0, [INT], INT, ONE))
        self.ill((), ("fun", 0, INT, INT, ONE))

    def test_free_variables_in_scope(self):
        self.ill((4, 1), ("fun", 1, (VAR,), INT, ("let", ("fold", ("rec", ("row", (("free", 1),))), BAD), ONE)))
        self.ill((4, 1, 2), ("fun", 1, (VAR,), INT, ("let", ("fold", ("rec", ("row", (FREE,))), BAD), ONE)))
        self.ill((2, 1), ("open", name(0), ("cell", ("hide", ("free", 1), BAD, PACK))), (("some", VAR),))
        self.ill((2, 1, 2), ("open", name(0), ("cell", ("hide", FREE, BAD, PACK))), (("some", VAR),))
        self.ill((1,), ("open", ("fold", ("rec", ("row", (FREE,))), BAD), BAD))

    def test_values_of_any_sort(self):
        for value in STRANGE + (("row",), ("row", None), ("int", None), ("row", (ONE, None)), ("call",), (("int", 1),), ([], 1), (True, 1)):
            if value == ("row", (ONE, None)):
                self.ill((1, 1), value)
            else:
                self.ill((), value)
                self.assertEqual(core_judged(value), ())
                self.ill((1,), ("cell", value))
        deep = nested("cell", 55, BAD)
        self.ill((1,) * 55, deep)


class Sequence(LookerCase):
    """Of two faults the one that comes first: form, terms within from left to right, rule."""

    def test_terms_within_from_left_to_right(self):
        for term, place in [
                (("sum", "add", BAD, BAD), (2,)), (("sum", "add", UNIT, BAD), (3,)), (("when", BAD, BAD, BAD), (1,)),
                (("when", UNIT, BAD, BAD), (2,)), (("when", UNIT, ONE, BAD), (3,)), (("let", BAD, BAD), (1,)), (("let", ONE, BAD), (2,)),
                (("call", BAD, (), (BAD,)), (1,)), (("call", ONE, (), (ONE, BAD)), (3, 1)), (row(ONE, BAD, BAD), (1, 1)),
                (("part", BAD, 5), (1,)), (("tag", 5, INT, BAD), (3,)), (("match", BAD, ()), (1,)), (("set", BAD, BAD), (1,)),
                (("set", ONE, BAD), (2,)), (("get", BAD), (1,)), (("fold", INT, BAD), (2,)), (("unfold", BAD), (1,)),
                (("hide", INT, BAD, INT), (2,)), (("open", BAD, BAD), (1,)), (("say", BAD), (1,)), (("fun", 0, (), INT, BAD), (4,))]:
            self.ill(place, term)

    def test_first(self):
        one = ("tag", 0, ("one", (INT, INT)), ONE)
        self.ill((), ("match", one, (BAD,)))
        self.ill((), ("match", UNIT, (BAD, BAD)))
        self.ill((2, 0), ("match", one, (BAD, UNIT)))
        self.ill((2, 1), ("match", one, (UNIT, BAD)))
        self.ill((), ("open", UNIT, BAD))
        self.ill((2,), ("open", ("hide", INT, ONE, ("some", VAR)), BAD))
        self.ill((), ("open", ("hide", INT, ONE, ("some", VAR)), name(0)))

    def test_deep_places(self):
        term = ("let", ONE, ("match", ("tag", 0, ("one", (INT,)), name(0)), (("open", ("hide", INT, ONE, ("some", VAR)),
                ("call", ("fun", 0, (INT,), INT, ("fold", ("rec", INT), ("hide", INT, ("tag", 0, ("one", (INT,)), BAD), ("some", VAR)))), (), ())),)))
        self.ill((2, 2, 0, 2, 1, 4, 2, 2, 3), term)


class Small(LookerCase):
    """At most 200 parts, nested at most 40 deep."""

    def wide(self, many):
        return ("row", (INT,) * (many - 1))

    def deep(self, many):
        return nested("cell", many - 1, INT)

    def test_kinds_of_terms(self):
        for kind, wrong in [(self.wide(199), self.wide(200)), (self.deep(39), self.deep(40))]:
            self.kind(("cell", kind), ("cell", name(0)), (kind,))
            self.kind(wrong, name(0), (wrong,))
            self.ill((), ("cell", name(0)), (wrong,))
            self.ill((1,), ("cell", ("cell", name(0))), (wrong,))
        self.ill((), name(0), (self.wide(201),))
        self.ill((), name(0), (self.deep(41),))
        self.ill((1,), ("let", name(0), ONE), (self.wide(201),))
        self.kind(INT, ONE, (self.wide(201),))
        self.kind(("cell", self.wide(199)), ("spot", 0), spots=(self.wide(199),))
        self.ill((), ("spot", 0), spots=(self.wide(200),))

    def test_rows(self):
        self.kind(self.wide(200), row(*(ONE,) * 199))
        self.ill((), row(*(ONE,) * 200))
        term = ONE
        for _ in range(39):
            term = row(term)
        core_kind(0, (), term)
        self.ill((), row(term))
        self.ill((1, 0), row(row(term)))

    def test_written_kinds(self):
        for right, wrong in [(self.wide(200), self.wide(201)), (self.deep(40), self.deep(41))]:
            self.ill((1,), ("call", BAD, (right,), ()))
            self.ill((), ("call", BAD, (wrong,), ()))
            self.ill((2,), ("hide", right, BAD, PACK))
            self.ill((), ("hide", wrong, BAD, PACK))
        for right, wrong in [(self.wide(199), self.wide(200)), (self.deep(39), self.deep(40))]:
            self.ill((2,), ("fold", ("rec", right), BAD))
            self.ill((), ("fold", ("rec", wrong), BAD))
            self.ill((2,), ("hide", INT, BAD, ("some", right)))
            self.ill((), ("hide", INT, BAD, ("some", wrong)))
            self.ill((3,), ("tag", 0, ("one", (right,)), BAD))
            self.ill((), ("tag", 0, ("one", (wrong,)), BAD))
        self.ill((4,), ("fun", 0, (self.wide(198),), INT, BAD))
        self.ill((), ("fun", 0, (self.wide(199),), INT, BAD))
        self.ill((4,), ("fun", 8, (self.deep(39),), INT, BAD))
        self.ill((), ("fun", 8, (self.deep(40),), INT, BAD))
        self.ill((4,), ("fun", 0, (), self.deep(39), BAD))
        self.ill((), ("fun", 0, (), self.deep(40), BAD))

    def test_kinds_that_come_to_be_great(self):
        # Opened: twice 100 parts and the row.
        double = ("to", 1, (VAR,), ("row", (VAR, VAR)))
        self.kind(("row", (self.wide(99), self.wide(99))), ("call", name(0), (self.wide(99),), (name(1),)), (double, self.wide(99)))
        self.ill((), ("call", name(0), (self.wide(100),), (name(1),)), (double, self.wide(100)))
        rec = ("rec", ("row", (VAR,) * 12))
        # Unfolded: a row of twelve with 14 parts each.
        self.kind(("row", (rec,) * 12), ("unfold", name(0)), (rec,))
        rec = ("rec", ("row", (VAR,) * 14))
        self.ill((), ("unfold", name(0)), (rec,))
        hidden = ("some", ("row", (VAR, VAR)))
        self.kind(hidden, ("hide", self.wide(99), row(name(0), name(0)), hidden), (self.wide(99),))
        self.ill((2,), ("hide", self.wide(100), row(name(0), name(0)), hidden), (self.wide(100),))

    def test_depth_that_comes_to_be_great(self):
        rec = ("rec", nested("cell", 20, VAR))
        # Unfolded: 20 cells and the kind itself, 22 deep.
        self.ill((), ("unfold", name(0)), (rec,))
        rec = ("rec", nested("cell", 19, VAR))
        self.kind(nested("cell", 19, rec), ("unfold", name(0)), (rec,))


class Judged(LookerCase):
    def test_programs(self):
        self.assertIsNone(core_judged(ONE))
        self.assertEqual(core_judged(UNIT), ())
        self.assertEqual(core_judged(("fun", 0, (), INT, ONE)), ())
        self.assertEqual(core_judged(("say", ONE)), ())
        self.assertEqual(core_judged(name(0)), ())
        self.assertEqual(core_judged(("spot", 0)), ())
        self.assertEqual(core_judged(("get", ("spot", 0))), (1,))
        self.assertEqual(core_judged(("sum", "add", ONE, UNIT)), ())
        self.assertEqual(core_judged(("sum", "add", ONE, ("sum", "add", ONE, UNIT))), (3,))
        self.assertIsInstance(core_judged(("say", UNIT)), tuple)

    def test_random_programs(self):
        for seed in range(120):
            self.assertIsNone(core_judged(CoreMaker(seed).program(30)))

    def test_random_faults(self):
        """Where a term is no term at all, and all ahead of it is right, the place is its own or that of a term around it."""
        rng = random.Random(4)
        for seed in range(200):
            program = CoreMaker(seed).program(25)
            place, _ = rng.choice(terms_in(program))
            for wrong in (BAD, ("int", 2 ** 31), None, ("more",), ("row", [])):
                self.assertEqual(core_judged(with_part(program, place, wrong)), place)

    def test_random_changes_are_told_by_a_place(self):
        rng = random.Random(5)
        refused = 0
        for seed in range(200):
            program = CoreMaker(seed).program(25)
            every = terms_in(program)
            (place, _), (_, part) = rng.choice(every), rng.choice(every)
            told = core_judged(with_part(program, place, part))
            if told is not None:
                refused += 1
                # A fault is at a term around the one that was changed, at it or in it.
                few = min(len(told), len(place))
                self.assertTrue(told[:few] == place[:few] or told > place[:few], (told, place))
        self.assertGreater(refused, 30)

    def test_core_of_source_programs(self):
        for seed in range(60):
            program = Maker(seed).program(25)
            if is_source(program):
                self.assertIsNone(core_judged(to_core(program)))


if __name__ == "__main__":
    unittest.main()
