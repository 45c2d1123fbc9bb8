import unittest

from kindscarried.errors import InvalidPart
from kindscarried.finding import found
from kindscarried.finding_judge import is_finding
from kindscarried.source import is_source, places_of, term_at
from kindscarried.source_run import run_source
from kindscarried.source_texts import source_text
from kindscarried.to_core import to_core
from tests.common import STRANGE, Case, nested
from tests.random_programs import Maker, part_at, paths

ONE = ("int", 1)
X = ("name", "x")
NOTHING = ("row", ())
KEYWORDS = ("cell", "data", "else", "fn", "fun", "get", "if", "in", "int", "let", "match", "say", "then")
EACH_TERM = (
    ONE, X, ("sum", "add", ONE, X), ("if", ONE, ONE, X), ("let", "x", ONE, X), ("split", ("x", "y"), ONE, X),
    ("fun", "f", ("x",), ONE, X), ("fn", ("x",), X), ("call", X, (ONE, X)), ("row", (ONE, X)), ("make", "A", (ONE,)),
    ("match", X, (("A", ("x",), ONE), ("B", (), X))), ("cell", X), ("get", X), ("set", X, ONE), ("say", X),
    ("then", X, ONE),
)


def word(k):
    return "w%d" % k


class Forms(Case):
    def holds(self, term, wanted=True, datas=()):
        self.assertIs(is_source((datas, term)), wanted, term)

    def test_each_of_the_seventeen(self):
        self.assertEqual(len({term[0] for term in EACH_TERM}), 17)
        for term in EACH_TERM:
            self.holds(term)
            self.holds(("say", term))
            self.holds(list(term), False)
            self.holds(term + (ONE,), False)
            self.holds(term[:-1], False)
            self.holds(("more",) + term[1:], False)
            for index in range(1, len(term)):
                for strange in (None, True, 5, [], "", ("int",), ("int", True), "Aa-"):
                    if strange == 5 and term[0] == "int":
                        continue
                    self.holds(term[:index] + (strange,) + term[index + 1:], False)

    def test_whole_values(self):
        for value in STRANGE:
            self.assertIs(is_source(value), False)
            self.assertIs(is_source((value, ONE)), value == () and type(value) is tuple)
            self.assertIs(is_source(((), value)), False)
        self.assertIs(is_source(((), ONE, ())), False)
        self.assertIs(is_source([(), ONE]), False)
        self.assertIs(is_source(value=((), ONE)), True)

    def test_words(self):
        for name, right in [("a", True), ("z9", True), ("abcdefgh", True), ("abcdefghi", False), ("a1234567", True),
                            ("", False), ("A", False), ("aB", False), ("1a", False), ("a_", False), ("a b", False),
                            (" a", False), ("\u00e9", False), ("a\u00e9", False), (None, False), (("a",), False), (5, False),
                            ("int1", True), ("cells", True), ("free", True), ("row", True)]:
            self.holds(("name", name), right)
            self.holds(("let", name, ONE, ONE), right)
            self.holds(("fn", (name,), ONE), right)
            self.holds(("fun", name, (), ONE, ONE), right)
            self.holds(("split", ("x", name), ONE, ONE), right)
            self.holds(("match", ONE, (("A", (name,), ONE),)), right)
            self.assertIs(is_source((((name, (), (("A", ()),)),), ONE)), right)
            self.assertIs(is_source(((("d", (name,), (("A", ()),)),), ONE)), right)
            self.assertIs(is_source(((("d", (), (("A", (("word", name, ()),)),)),), ONE)), right)
        for name in KEYWORDS:
            self.holds(("name", name), False)
            self.holds(("name", name + "s"), True)

    def test_options(self):
        for name, right in [("A", True), ("Z9", True), ("Abcdefgh", True), ("Abcdefghi", False), ("A1234567", True),
                            ("", False), ("a", False), ("AB", False), ("1A", False), ("A_", False), (None, False),
                            ("Int", True), (("A",), False)]:
            self.holds(("make", name, ()), right)
            self.holds(("match", ONE, ((name, (), ONE),)), right)
            self.assertIs(is_source(((("d", (), ((name, ()),)),), ONE)), right)

    def test_numbers(self):
        for number, right in [(0, True), (-2 ** 31, True), (2 ** 31 - 1, True), (2 ** 31, False), (-2 ** 31 - 1, False),
                              (True, False), (10 ** 89, False), (None, False), ("1", False)]:
            self.holds(("int", number), right)

    def test_sum_words(self):
        for sign in ("add", "take", "times", "less", "same"):
            self.holds(("sum", sign, ONE, ONE))
        for sign in ("+", "", "adds", None, ("add",), ["add"], 0):
            self.holds(("sum", sign, ONE, ONE), False)

    def test_numbers_of_members(self):
        for many in range(9):
            words = tuple(word(k) for k in range(many))
            terms = (ONE,) * many
            self.holds(("fn", words, ONE), many <= 6)
            self.holds(("fun", "f", words, ONE, ONE), many <= 6)
            self.holds(("split", words, ONE, ONE), many <= 6 and many != 1)
            self.holds(("call", ONE, terms), many <= 6)
            self.holds(("row", terms), many <= 6 and many != 1)
            self.holds(("make", "A", terms), many <= 6)
            self.holds(("match", ONE, (("A", words, ONE),)), many <= 6)
            self.holds(("match", ONE, (("A", (), ONE),) * many), 1 <= many <= 6)
            for wrong in (list(words), None, "ab"):
                self.holds(("fn", wrong, ONE), False)
                self.holds(("call", ONE, wrong), False)
                self.holds(("match", ONE, wrong), False)
        self.holds(("match", ONE, (["A", (), ONE],)), False)
        self.holds(("match", ONE, (("A", (), ONE, ()),)), False)
        self.holds(("match", ONE, (("A", ()),)), False)

    def test_datas(self):
        kind = ("int",)

        def data(parameters=(), options=(("A", ()),), name="d"):
            return (name, parameters, options)

        for many in range(11):
            words = tuple(word(k) for k in range(many))
            self.assertIs(is_source(((data(),) * many, ONE)), many <= 8)
            self.assertIs(is_source(((data(words),), ONE)), many <= 4)
            self.assertIs(is_source(((data((), (("A", ()),) * many),), ONE)), 1 <= many <= 6)
            for told, right in [((("A", (kind,) * many),), many <= 6), ((("A", (("word", "a", (kind,) * many),)),), many <= 6),
                                ((("A", (("fun", (kind,) * many, kind),)),), many <= 6),
                                ((("A", (("row", (kind,) * many),)),), many <= 6 and many != 1)]:
                self.assertIs(is_source(((data((), told),), ONE)), right)
        for wrong in (data()[:2], data() + ((),), list(data()), data([]), data((), []), data((), [("A", ())]), data((), (["A", ()],)),
                      data((), (("A",),)), data((), (("A", [kind]),)), data((), (("A", (), ()),)), 5, None):
            self.assertIs(is_source(((wrong,), ONE)), False)

    def test_written_kinds(self):
        def told(kind):
            return is_source(((("d", (), (("A", (kind,)),)),), ONE))

        right = [("int",), ("word", "a", ()), ("word", "a", (("int",),)), ("fun", (), ("int",)), ("row", ()),
                 ("row", (("int",), ("int",))), ("cell", ("int",)), ("fun", (("int",),), ("row", ()))]
        wrong = [("int", ()), ("int", 0), ("word", "a"), ("word", ("int",), ()), ("word", "a", [("int",)]), ("fun", ("int",), ("int",)),
                 ("fun", ()), ("fun", (), ("int",), ()), ("row",), ("row", ("int",)), ("row", (("int",),)), ("cell",), ("cell", "int"),
                 ("cell", ("int",), ()), ("free", 0), ("to", 0, (), ("int",)), ("data", "d", ()), ["int"], 5, None, (), "int",
                 ("word", "Ab", ()), ("word", "in", ()), ("word", "a", ("int",)), (("int",),)]
        for kind in right:
            self.assertIs(told(kind), True, kind)
        for kind in wrong:
            self.assertIs(told(kind), False, kind)
            self.assertIs(told(("cell", kind)), False, kind)
        for leaf in (("int",), ("row", ()), ("word", "a", ())):
            self.assertIs(told(nested("cell", 4, leaf)), True)
            self.assertIs(told(nested("cell", 5, leaf)), False)
            self.assertIs(told(("fun", (leaf, nested("cell", 3, leaf)), leaf)), True)
            self.assertIs(told(("fun", (leaf, nested("cell", 4, leaf)), leaf)), False)
            self.assertIs(told(("fun", (), nested("cell", 4, leaf))), False)
            self.assertIs(told(("row", (leaf, nested("cell", 4, leaf)))), False)
            self.assertIs(told(("word", "a", (leaf, nested("cell", 4, leaf)))), False)


class Bounds(Case):
    def test_depth(self):
        self.assertIs(is_source(((), nested("say", 19, ONE))), True)
        self.assertIs(is_source(((), nested("say", 20, ONE))), False)
        self.assertIs(is_source(((), nested("say", 19, NOTHING))), True)
        self.assertIs(is_source(((), nested("say", 20, ("make", "A", ())))), False)
        self.assertIs(is_source(((), nested("say", 18, ("call", ONE, ())))), True)
        self.assertIs(is_source(((), nested("say", 19, ("call", ONE, ())))), False)

    def test_depth_of_each_member(self):
        for term in EACH_TERM:
            for path in paths(term)[1:]:
                words = {("split", (3,)): 2, ("match", (2, 0, 2)): 1}.get((term[0], path), 0)
                for more in (0, 1):
                    whole = self.put(term, path, nested("say", 18 - words + more, ONE))
                    self.assertIs(is_source(((), whole)), more == 0, (term, path))

    def put(self, term, path, leaf):
        if not path:
            return leaf
        return term[:path[0]] + (self.put(term[path[0]], path[1:], leaf),) + term[path[0] + 1:]

    def test_depth_counts_words_of_splits_and_cases(self):
        six = tuple(word(k) for k in range(6))
        deep = ("split", six, ONE, ("split", six, ONE, ("split", (), ONE, nested("say", 4, ONE))))
        self.assertIs(is_source(((), deep)), True)
        self.assertIs(is_source(((), ("say", deep))), False)
        case = ("match", ONE, (("A", (), ONE), ("B", six, nested("say", 12, ONE))))
        self.assertIs(is_source(((), case)), True)
        self.assertIs(is_source(((), ("say", case))), False)
        self.assertIs(is_source(((), ("match", nested("say", 18, ONE), (("A", six, ONE),)))), True)
        self.assertIs(is_source(((), ("split", six, nested("say", 18, ONE), ONE))), True)
        self.assertIs(is_source(((), nested("fn", 0, ("fn", six, nested("say", 18, ONE))))), True)

    def test_parts(self):
        def row(many):
            """A term of so many parts, 6 rows of them at most."""
            if many == 1:
                return ONE
            if many <= 3:
                return nested("say", many - 1, ONE)
            left = many - 1
            sizes = [left // 6 + (1 if k < left % 6 else 0) for k in range(6)]
            return ("row", tuple(row(size) for size in sizes if size)) if left >= 6 else nested("say", left, ONE)

        for many in (198, 199, 200):
            self.assertIs(is_source(((), row(many))), True)
        self.assertIs(is_source(((), row(201))), False)
        words = ("a", "b", "c")
        for around, more in [(("fn", words), 4), (("fun", "f", words, ONE), 5), (("split", words, ONE), 5), (("let", "a", ONE), 2)]:
            self.assertIs(is_source(((), around + (row(200 - more),))), True)
            self.assertIs(is_source(((), around + (row(201 - more),))), False)
        cases = (("A", words, ONE), ("B", words[:2], ONE), ("C", (), ONE))
        self.assertIs(is_source(((), ("match", row(191), cases))), True)
        self.assertIs(is_source(((), ("match", row(192), cases))), False)


class Places(Case):
    def test_inner_terms_in_their_sequence(self):
        wanted = {
            "int": [], "name": [], "sum": [ONE, X], "if": [ONE, ONE, X], "let": [ONE, X], "split": [ONE, X], "fun": [ONE, X],
            "fn": [X], "call": [X, ONE, X], "row": [ONE, X], "make": [ONE], "match": [X, ONE, X], "cell": [X], "get": [X],
            "set": [X, ONE], "say": [X], "then": [X, ONE],
        }
        for term in EACH_TERM:
            inner = wanted[term[0]]
            self.assertEqual(places_of(((), term)), ((),) + tuple((k,) for k in range(len(inner))))
            for index, part in enumerate(inner):
                self.assertEqual(term_at(((), term), (index,)), part)
            self.assertIsNone(term_at(((), term), (len(inner),)))

    def test_places(self):
        term = ("call", ("fn", ("x",), ("sum", "add", X, ONE)), (("row", (ONE, ("say", X))), ("if", X, ONE, X)))
        places = ((), (0,), (0, 0), (0, 0, 0), (0, 0, 1), (1,), (1, 0), (1, 1), (1, 1, 0), (2,), (2, 0), (2, 1), (2, 2))
        self.assertEqual(places_of(program=((), term)), places)
        self.assertIsInstance(places_of(((), term)), tuple)
        self.assertEqual(term_at(program=((), term), place=(1, 1)), ("say", X))
        self.assertEqual(term_at(((), term), ()), term)

    def test_places_that_are_none(self):
        program = ((), ("row", (ONE, ("say", X))))
        for place in ((2,), (-1,), (0, 0), (1, 1), (1, 0, 0), (1, -1), (10 ** 89,), (-10 ** 89,), (5, 0), (0,) * 50):
            self.assertIsNone(term_at(program, place))

    def test_places_of_many_programs(self):
        for seed in range(60):
            program = Maker(seed).program(20)
            places = places_of(program)
            self.assertEqual(list(places), sorted(set(places)))
            every = paths(program[1])
            self.assertEqual(len(places), len(every))
            self.assertEqual([term_at(program, place) for place in places], [part_at(program[1], path) for path in every])


class NoProgram(Case):
    def test_invalid_part(self):
        for value in STRANGE + (((), ("int", 2 ** 31)), ((), nested("say", 20, ONE)), [(), ONE]):
            self.fails(InvalidPart, None, None, places_of, value)
            self.fails(InvalidPart, None, None, term_at, value, ())
            self.fails(InvalidPart, None, None, source_text, value)
            self.fails(InvalidPart, None, None, found, value)
            self.fails(InvalidPart, None, None, is_finding, value, ())
            self.fails(InvalidPart, None, None, to_core, value)
            self.fails(InvalidPart, None, None, run_source, value, 0)
            self.fails(InvalidPart, None, None, run_source, value, -1)


if __name__ == "__main__":
    unittest.main()
