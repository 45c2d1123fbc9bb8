import random
import unittest

from kindscarried.kinds import (CLOSED_WORDS, CODE_WORDS, CORE_WORDS, STORED_WORDS, filled, fits, is_kind, opened,
                                opened_first, shut, unfolded)
from tests.common import STRANGE, Case, nested

INT = ("int",)
EVERY = tuple(sorted(set(CORE_WORDS + CLOSED_WORDS + STORED_WORDS + CODE_WORDS)))


def random_kind(rng, free, bound, depth, words=EVERY):
    """A kind over so many free variables and so many variables bound around it."""
    leaves = ["int", "int"] + (["free"] * 2 if free else []) + (["var"] * 4 if bound else [])
    word = rng.choice(leaves) if depth == 0 else rng.choice(leaves + [word for word in words if word != "int"])
    if word == "int":
        return INT
    if word == "free":
        return ("free", rng.randrange(free))
    if word == "var":
        return ("var", rng.randrange(bound))

    def inner(more=0):
        return random_kind(rng, free, bound + more, depth - 1, words)

    def several(least, more=0):
        return tuple(inner(more) for _ in range(rng.randrange(least, 4)))

    if word in ("row", "one"):
        return (word, several(1 if word == "one" else 0))
    if word == "cell":
        return ("cell", inner())
    if word == "some":
        return ("some", inner(1))
    if word == "rec":
        kind = inner(1)
        return ("rec", ("cell", kind) if kind[0] in ("free", "var") else kind)
    n = rng.randrange(3)
    if word == "to":
        return ("to", n, several(0, n), inner(n))
    if word == "not":
        return ("not", n, several(0, n))
    if word == "room":
        return ("room", tuple((kind, rng.random() < 0.5) for kind in several(0)))
    return ("code", n, tuple((3 * index + rng.randrange(3), kind) for index, kind in enumerate(several(0, n))))


def insides(kind):
    """The tuple of the kinds right in a binder."""
    if kind[0] in ("some", "rec"):
        return kind[1:]
    if kind[0] == "to":
        return kind[2] + kind[3:]
    return kind[2] if kind[0] == "not" else tuple(inner for _, inner in kind[2])


def as_tuple(kind, told):
    """What opened tells of such a binder, as a tuple of kinds."""
    if kind[0] in ("some", "rec"):
        return (told,)
    if kind[0] == "to":
        return told[0] + (told[1],)
    return told if kind[0] == "not" else tuple(inner for _, inner in told)


class IsKind(Case):
    def test_words_of_levels(self):
        self.assertEqual(CORE_WORDS, ("cell", "int", "one", "rec", "row", "some", "to"))
        self.assertEqual(CLOSED_WORDS, ("cell", "int", "not", "one", "rec", "row", "some"))
        self.assertEqual(STORED_WORDS, ("cell", "int", "not", "one", "rec", "room", "some"))
        self.assertEqual(CODE_WORDS, ("cell", "code", "int", "one", "rec", "room", "some"))

    def test_each_word(self):
        kinds = {
            "int": INT, "row": ("row", ()), "one": ("one", (INT,)), "cell": ("cell", INT), "some": ("some", ("var", 0)),
            "rec": ("rec", ("cell", ("var", 0))), "to": ("to", 0, (), INT), "not": ("not", 0, ()),
            "room": ("room", ((INT, True),)), "code": ("code", 0, ((0, INT),)),
        }
        self.assertEqual(sorted(kinds), list(EVERY))
        for words in (CORE_WORDS, CLOSED_WORDS, STORED_WORDS, CODE_WORDS):
            for word, kind in kinds.items():
                alone = word in words and (word == "int" or "int" in words)
                self.assertIs(is_kind(0, kind, words), alone, (word, words))
                if word != "int" and "int" in str(kind):
                    self.assertIs(is_kind(0, kind, (word,)), False)
        self.assertIs(is_kind(0, INT, ()), False)
        self.assertIs(is_kind(1, ("free", 0), ()), True)
        self.assertIs(is_kind(0, ("some", ("var", 0)), ("some",)), True)

    def test_words_that_are_no_kinds(self):
        for word in ("word", "fun", "data", "open", "", "Int"):
            self.assertIs(is_kind(0, (word,), EVERY + (word,)), False)
            self.assertIs(is_kind(0, (word, INT), EVERY + (word,)), False)

    def test_free_variables(self):
        for free in range(4):
            for j in range(-1, 6):
                self.assertIs(is_kind(free, ("cell", ("free", j)), EVERY), 0 <= j < free)
        self.assertIs(is_kind(0, ("some", ("free", 0)), EVERY), False)
        self.assertIs(is_kind(10 ** 6, ("free", 10 ** 6 - 1), EVERY), True)

    def test_bound_variables(self):
        binders = [(lambda k: ("some", k), 1), (lambda k: ("rec", ("cell", k)), 1), (lambda k: ("to", 2, (k,), INT), 2),
                   (lambda k: ("to", 2, (), k), 2), (lambda k: ("not", 3, (INT, k)), 3), (lambda k: ("not", 0, (k,)), 0),
                   (lambda k: ("code", 2, ((1, k),)), 2), (lambda k: ("room", ((k, False),)), 0),
                   (lambda k: ("row", (INT, k)), 0), (lambda k: ("one", (k, INT)), 0), (lambda k: ("cell", k), 0)]
        for outer, more in binders:
            for inner, many in binders:
                for i in range(-1, 7):
                    self.assertIs(is_kind(0, outer(inner(("var", i))), EVERY), 0 <= i < more + many)

    def test_wrong_forms(self):
        wrong = [
            ("int", INT), ("free",), ("free", 0, 0), ("free", True), ("free", "0"), ("free", (0,)), ("var", 0), ("var", False),
            ("row",), ("row", INT), ("row", [INT]), ("row", (INT,), ()), ("row", (5,)), ("row", None), ("row", "ab"),
            ("one", ()), ("one", [INT]), ("one", INT), ("one",), ("cell",), ("cell", INT, INT), ("cell", (INT,)),
            ("cell", [INT]), ("some",), ("some", INT, INT), ("some", 5), ("rec",), ("rec", 5), ("rec", ()),
            ("to", 0, (INT,)), ("to", 0, INT, INT), ("to", True, (), INT), ("to", -1, (), INT), ("to", 10001, (), INT),
            ("to", 0, [], INT), ("to", 0, (), (INT,)), ("to", None, (), INT), ("to", 0, (INT, 5), INT),
            ("not", 0), ("not", -1, ()), ("not", 10001, ()), ("not", 0, INT), ("not", False, ()), ("not", 0, [], ()),
            ("room", (INT,)), ("room", ((INT, 1),)), ("room", ((INT, True, 0),)), ("room", ([INT, True],)),
            ("room", [(INT, True)]), ("room", ((INT, None),)), ("room",), ("room", ((5, True),)), ("room", ((INT,),)),
            ("code", 0, ((0, INT), (0, INT))), ("code", 0, ((1, INT), (0, INT))), ("code", 0, ((-1, INT),)),
            ("code", 0, ((True, INT),)), ("code", 0, ((0, INT, 0),)), ("code", 0, ([0, INT],)), ("code", 0, [(0, INT)]),
            ("code", -1, ()), ("code", 10001, ()), ("code", 0), ("code", 0, ((0, 5),)), ("code", 0, (("0", INT),)),
            ["int"], [INT], "int", ("int", ()), (("int",),), (INT, INT),
        ]
        for value in wrong:
            self.assertIs(is_kind(0, value, EVERY), False, value)
            self.assertIs(is_kind(0, ("cell", value), EVERY), False, value)
        for value in STRANGE:
            self.assertIs(is_kind(3, value, EVERY), value == INT and type(value) is tuple, value)

    def test_bounds_that_are_right(self):
        right = [("to", 10000, (("var", 9999),), INT), ("not", 10000, ()), ("code", 10000, ((0, ("var", 9999)),)),
                 ("code", 0, ((0, INT), (31, INT), (2 ** 40, INT))), ("row", (INT,)), ("room", ()), ("room", ((INT, False),)),
                 ("rec", INT), ("rec", ("some", ("var", 1))), ("rec", ("rec", ("cell", ("var", 1)))), ("some", ("var", 0))]
        for value in right:
            self.assertIs(is_kind(0, value, EVERY), True, value)

    def test_rec_of_a_variable(self):
        for inside in (("var", 0), ("free", 0), ("var", 1)):
            self.assertIs(is_kind(1, ("rec", inside), EVERY), False)
            self.assertIs(is_kind(1, ("some", ("rec", inside)), EVERY), False)
            self.assertIs(is_kind(1, ("some", ("rec", ("cell", inside))), EVERY), True)

    def test_deep_values(self):
        self.assertIs(is_kind(0, nested("cell", 55, INT), EVERY), True)
        self.assertIs(is_kind(0, nested("cell", 55, 5), EVERY), False)
        self.assertIs(is_kind(0, nested("some", 3000, ("var", 2999)), EVERY), True)
        self.assertIs(is_kind(0, nested("some", 3000, ("var", 3000)), EVERY), False)

    def test_by_names(self):
        self.assertIs(is_kind(free=1, value=("free", 0), words=()), True)


class Put(Case):
    def test_examples(self):
        pair = ("some", ("row", (("var", 0), ("not", 1, (("var", 0), ("var", 1))))))
        told = [opened(pair, (INT,)), shut(("row", (("free", 2), ("free", 0))), (2,)),
                opened_first(("not", 2, (("var", 0), ("var", 1))), (INT,))]
        self.assertEqual(told, [("row", (INT, ("not", 1, (("var", 0), INT)))), ("row", (("var", 0), ("free", 0))),
                                ("not", 1, (INT, ("var", 0)))])
        self.assertEqual([unfolded(("rec", ("cell", ("var", 0)))), fits(("room", ((INT, True),)), ("room", ((INT, False),)))],
                         [("cell", ("rec", ("cell", ("var", 0)))), True])

    def test_opened_of_each_binder(self):
        a, b = ("free", 5), ("cell", ("free", 0))
        self.assertEqual(opened(("to", 2, (("var", 1), ("var", 0)), ("some", ("var", 2))), (a, b)), ((b, a), ("some", b)))
        self.assertEqual(opened(("to", 0, (INT,), ("free", 1)), ()), ((INT,), ("free", 1)))
        self.assertEqual(opened(("not", 2, (("row", (("var", 0), ("var", 1))),)), (a, b)), (("row", (a, b)),))
        self.assertEqual(opened(("code", 1, ((2, ("var", 0)), (7, INT))), (a,)), ((2, a), (7, INT)))
        self.assertEqual(opened(("some", ("free", 3)), (a,)), ("free", 3))
        self.assertEqual(opened(("rec", ("one", (("var", 0), INT))), (a,)), ("one", (a, INT)))
        self.assertEqual(opened(("not", 0, ()), ()), ())
        self.assertEqual(opened(kind=("some", ("var", 0)), kinds=(a,)), a)

    def test_opened_below_binders(self):
        inside = ("row", (("var", 0), ("not", 2, (("var", 0), ("var", 1), ("var", 2), ("rec", ("cell", ("var", 3)))))))
        kind = ("some", ("free", 0))
        self.assertEqual(opened(("some", inside), (kind,)),
                         ("row", (kind, ("not", 2, (("var", 0), ("var", 1), kind, ("rec", ("cell", kind)))))))
        room = ("some", ("room", ((("var", 0), True), (("to", 1, (("var", 0),), ("var", 1)), False))))
        self.assertEqual(opened(room, (INT,)), ("room", ((INT, True), (("to", 1, (("var", 0),), INT), False))))
        code = ("not", 1, (("code", 2, ((1, ("var", 2)), (4, ("var", 1)))),))
        self.assertEqual(opened(code, (INT,)), (("code", 2, ((1, INT), (4, ("var", 1)))),))

    def test_opened_first(self):
        kind = ("code", 3, ((0, ("var", 0)), (2, ("var", 1)), (5, ("some", ("row", (("var", 0), ("var", 1), ("var", 3)))))))
        self.assertEqual(opened_first(kind, ()), kind)
        self.assertEqual(opened_first(kind, (INT,)),
                         ("code", 2, ((0, INT), (2, ("var", 0)), (5, ("some", ("row", (("var", 0), INT, ("var", 2))))))))
        self.assertEqual(opened_first(kind, (INT, ("free", 0), ("free", 1))),
                         ("code", 0, ((0, INT), (2, ("free", 0)), (5, ("some", ("row", (("var", 0), INT, ("free", 1))))))))
        self.assertEqual(opened_first(kind=("not", 0, ()), kinds=()), ("not", 0, ()))

    def test_unfolded(self):
        kind = ("rec", ("one", (("row", ()), ("row", (("free", 1), ("var", 0), ("some", ("row", (("var", 0), ("var", 1)))))))))
        self.assertEqual(unfolded(kind=kind),
                         ("one", (("row", ()), ("row", (("free", 1), kind, ("some", ("row", (("var", 0), kind))))))))
        self.assertEqual(unfolded(("rec", INT)), INT)

    def test_shut(self):
        kind = ("row", (("free", 0), ("free", 7), ("some", ("row", (("var", 0), ("free", 7), ("free", 3)))), ("free", 3)))
        self.assertEqual(shut(kind, ()), kind)
        self.assertEqual(shut(kind=kind, order=(3, 7)),
                         ("row", (("free", 0), ("var", 1), ("some", ("row", (("var", 0), ("var", 2), ("var", 1)))), ("var", 0))))
        self.assertEqual(shut(("to", 2, (("free", 0), ("var", 1)), ("var", 0)), (0,)),
                         ("to", 2, (("var", 2), ("var", 1)), ("var", 0)))

    def test_filled(self):
        kind = ("row", (("free", 1), ("rec", ("cell", ("row", (("var", 0), ("free", 0)))))))
        self.assertEqual(filled(kind=kind, kinds=(("cell", ("free", 4)), INT)),
                         ("row", (INT, ("rec", ("cell", ("row", (("var", 0), ("cell", ("free", 4)))))))))
        self.assertEqual(filled(INT, ()), INT)

    def test_fact_opened_then_shut(self):
        rng = random.Random(6)
        for _ in range(1500):
            free = rng.randrange(3)
            kind = random_kind(rng, free, 0, 4)
            if kind[0] not in ("some", "rec", "to", "not", "code"):
                continue
            many = 1 if kind[0] in ("some", "rec") else kind[1]
            order = tuple(rng.sample(range(free, free + 5), many))
            inside = as_tuple(kind, opened(kind, tuple(("free", j) for j in order)))
            whole = insides(kind)
            self.assertTrue(all(is_kind(free + 5, part, EVERY) for part in inside))
            self.assertEqual(tuple(shut(part, order) for part in inside), whole)
            # Opened with whole kinds it is what filled tells of it opened with free ones.
            kinds = tuple(random_kind(rng, 4, 0, 2) for _ in range(many))
            last = list(range(free, free + many))
            with_free = opened(kind, tuple(("free", j) for j in last))
            put = tuple(("free", j) for j in range(free)) + kinds
            straight = opened(kind, kinds)
            if kind[0] == "to":
                self.assertEqual((tuple(filled(k, put) for k in with_free[0]), filled(with_free[1], put)), straight)
            elif kind[0] == "not":
                self.assertEqual(tuple(filled(k, put) for k in with_free), straight)
            elif kind[0] == "code":
                self.assertEqual(tuple((r, filled(k, put)) for r, k in with_free), straight)
            else:
                self.assertEqual(filled(with_free, put), straight)
            if kind[0] in ("not", "code"):
                some = rng.randrange(many + 1)
                self.assertEqual(opened(opened_first(kind, kinds[:some]), kinds[some:]), straight)

    def test_random_kinds_are_kinds(self):
        rng = random.Random(7)
        for words in (CORE_WORDS, CLOSED_WORDS, STORED_WORDS, CODE_WORDS):
            for _ in range(300):
                kind = random_kind(rng, 2, 0, 4, words)
                self.assertIs(is_kind(2, kind, words), True)
                left = tuple(word for word in words if word != rng.choice(words))
                used = [word for word in words if "'%s'" % word in str(kind)]
                self.assertIs(is_kind(2, kind, left), all(word in left for word in used))

    def test_deep_kinds(self):
        deep = nested("some", 300, ("row", (("var", 299), ("free", 0))))
        self.assertEqual(opened(deep, (INT,)), nested("some", 299, ("row", (INT, ("free", 0)))))
        self.assertEqual(filled(deep, (INT,)), nested("some", 300, ("row", (("var", 299), INT))))
        self.assertEqual(shut(deep, (0,)), nested("some", 300, ("row", (("var", 299), ("var", 300)))))


class Fits(Case):
    def test_kinds_nested_deep(self):
        """However deep kinds are nested, they are the same or not."""
        def deep(inner, many=3000):
            return nested("cell", many, inner)

        rows = [INT, ("free", 0), ("free", 1), ("row", ()), ("row", (INT,)), ("row", (INT, INT)), ("row", (INT, ("row", ()))), ("room", ((INT, True),)), ("room", ((INT, False),)), ("cell", INT),
                ("not", 0, ()), ("not", 1, ()), ("not", 0, (INT,)), ("code", 0, ((0, INT),)), ("code", 0, ((1, INT),)), ("one", (INT,)), ("some", ("var", 0)), ("rec", ("cell", ("var", 0)))]
        for first in rows:
            for second in rows:
                self.assertIs(fits(deep(first), deep(second)), first == second)
                self.assertIs(fits(("room", ((deep(first), True),)), ("room", ((deep(second), False),))), first == second)
            self.assertIs(fits(deep(first), deep(first, 2999)), False)
            self.assertIs(fits(deep(first, 150), deep(first, 3000)), False)
            self.assertIs(fits(deep(first, 3000), first), False)
        for many in (198, 199, 200, 201, 300):
            self.assertIs(fits(deep(INT, many), deep(INT, many)), True)
            self.assertIs(fits(deep(INT, many), deep(("row", ()), many)), False)
        wide = ("row", tuple(deep(INT, 500) for _ in range(5)))
        self.assertIs(fits(wide, ("row", tuple(deep(INT, 500) for _ in range(5)))), True)
        self.assertIs(fits(wide, ("row", tuple(deep(INT, 500 - k // 4) for k in range(5)))), False)

    def test_rooms(self):
        def room(*truths):
            return ("room", tuple((INT, truth) for truth in truths))

        for wanted, kind, told in [((False, True), (True, True), True), ((True, True), (False, True), False),
                                   ((False,), (False,), True), ((True,), (False,), False), ((), (), True),
                                   ((True,), (True, True), False), ((False, False), (False,), False),
                                   ((False, False, False), (True, False, True), True)]:
            self.assertIs(fits(room(*kind), room(*wanted)), told)
        self.assertIs(fits(kind=("room", ((("cell", INT), True),)), wanted=("room", ((INT, False),))), False)

    def test_at_the_outermost_alone(self):
        more, less = ("room", ((INT, True),)), ("room", ((INT, False),))
        for around in (lambda k: ("cell", k), lambda k: ("row", (k,)), lambda k: ("room", ((k, True),)),
                       lambda k: ("not", 0, (k,))):
            self.assertIs(fits(around(more), around(less)), False)
            self.assertIs(fits(around(more), around(more)), True)

    def test_others_are_the_same(self):
        self.assertIs(fits(INT, INT), True)
        self.assertIs(fits(INT, ("cell", INT)), False)
        self.assertIs(fits(("row", ()), ("room", ())), False)
        self.assertIs(fits(("free", 0), ("free", 1)), False)

    def test_from_one_to_the_next(self):
        rng = random.Random(8)
        rooms = [("room", tuple((rng.choice((INT, ("row", ()))), rng.random() < 0.5) for _ in range(rng.randrange(3))))
                 for _ in range(40)] + [INT, ("cell", INT)]
        for one in rooms:
            self.assertTrue(fits(one, one))
            for other in rooms:
                for third in rooms:
                    if fits(one, other) and fits(other, third):
                        self.assertTrue(fits(one, third))


if __name__ == "__main__":
    unittest.main()
