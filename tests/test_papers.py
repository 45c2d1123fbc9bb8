import random
import time
import unittest

from kindscarried.collector import gone
from kindscarried.compiler import compiled_text
from kindscarried.errors import IllKinded, InvalidCount, InvalidPaper
from kindscarried.kinds import opened
from kindscarried.looker import looked
from kindscarried.machine import first_state, run, step
from kindscarried.papers import check_paper, forgotten, is_paper, joined, least_paper, met, paper_of, run_by_paper
from tests.changes import changed
from tests.common import STRANGE, Case
from tests.naive_code import CodeMaker, Fault, code_fault, end_checked, row_after
from tests.naive_machine import naive_run
from tests.programs import LIST, TEXTS

INT = ("int",)
VAR = ("var", 0)
FREE = ("free", 0)
ONE = ("int", 1)
HALT = ("halt", ONE)
UNIT = ("room", ())
PAIR = ("room", ((INT, True), (INT, False)))


def reg(r):
    return ("register", r)


def label(b):
    return ("label", b)


def naive_wrong(code, paper):
    """The index of the first wrong line, told plainly; None of a right paper."""
    if type(paper) is not tuple:
        return 0
    at = 0
    for n, regs, rows, end in code[1]:
        may = (n, dict(opened(("code", n, regs), tuple(("free", i) for i in range(n)))))
        for row in list(rows) + [None]:
            if at >= len(paper) or may is None:
                return at
            line = paper[at]
            if not (type(line) is tuple and len(line) == 2 and type(line[1]) is tuple and type(line[0]) is int and line[0] == may[0]):
                return at
            if not all(type(reg) is tuple and len(reg) == 2 and type(reg[0]) is int and reg[0] in may[1] and repr(reg[1]) == repr(may[1][reg[0]]) for reg in line[1]):
                return at
            numbers = [number for number, _ in line[1]]
            if numbers != sorted(set(numbers)):
                return at
            at += 1
            try:
                may = row_after(code, line[0], dict(line[1]), row) if row is not None else None
            except Fault:
                may = None
        try:
            end_checked(code, paper[at - 1][0], dict(paper[at - 1][1]), end)
        except Fault:
            return at - 1
    return at if len(paper) > at else None


# Block 1 is handed an int and a pair; block 2 has a kind variable.
CODE = (6, (
    (0, (), (("move", 0, ("int", 5)), ("room", 1, (INT, INT)), ("store", 1, 0, reg(0)), ("move", 2, reg(0)), ("cell", 3, reg(2)), ("branch", reg(0), label(1))), ("jump", ("at", label(2), (INT,)))),
    (0, ((0, INT), (1, PAIR)), (("load", 4, reg(1), 0), ("move", 5, ONE)), ("halt", reg(4))),
    (1, ((0, VAR), (2, VAR), (3, ("cell", VAR))), (("set", 3, reg(0)), ("move", 1, ("hide", FREE, reg(2), ("some", VAR))), ("open", 4, reg(1)), ("tagged", 5, 1, ("one", (INT, ("free", 1))), reg(4))), ("pick", 5, (label(3), ("at", label(4), (("free", 1),))))),
    (0, ((5, INT),), (), ("halt", reg(5))),
    (1, ((4, VAR), (5, VAR)), (), HALT),
))
LEAST = (
    (0, ()), (0, ((0, INT),)), (0, ((0, INT), (1, ("room", ((INT, False), (INT, False)))))), (0, ((0, INT), (1, PAIR))), (0, ((0, INT), (1, PAIR), (2, INT))), (0, ((0, INT), (1, PAIR), (2, INT), (3, ("cell", INT)))),
    (0, ((0, INT), (2, INT), (3, ("cell", INT)))),
    (0, ((1, PAIR),)), (0, ((4, INT),)), (0, ((4, INT),)),
    (1, ((0, FREE), (2, FREE), (3, ("cell", FREE)))), (1, ((2, FREE),)), (1, ((1, ("some", VAR)),)), (2, ((4, ("free", 1)),)), (2, ((4, ("free", 1)), (5, ("one", (INT, ("free", 1)))))),
    (0, ((5, INT),)),
    (1, ()),
)


class PaperCase(Case):
    def right(self, code, paper):
        self.assertIsNone(check_paper(code, paper))
        self.assertIsNone(check_paper(code=code, paper=paper))
        self.assertIs(is_paper(code, paper), True)
        self.assertIs(is_paper(code=code, value=paper), True)
        self.assertIsNone(naive_wrong(code, paper))

    def wrong(self, code, paper, index):
        self.assertEqual(naive_wrong(code, paper), index)
        self.fails(InvalidPaper, "index", index, check_paper, code, paper)
        self.assertIs(is_paper(code, paper), False)


def repr_of(kind):
    """What a kind looks like, however deep it is nested."""
    texts = []
    pending = [kind]
    while pending:
        part = pending.pop()
        if type(part) is tuple:
            texts.append("(%d" % len(part))
            pending.extend(part)
        else:
            texts.append(repr(part))
    return texts


def with_line(paper, index, line):
    return paper[:index] + (line,) + paper[index + 1:]


class Checks(PaperCase):
    def test_full_and_least(self):
        self.assertIsNone(looked(CODE))
        full = paper_of(CODE)
        self.assertEqual(paper_of(code=CODE), full)
        self.right(CODE, full)
        self.assertEqual(len(full), sum(len(block[2]) + 1 for block in CODE[1]))
        self.assertEqual(full[6], (0, ((0, INT), (1, PAIR), (2, INT), (3, ("cell", INT)))))
        self.assertEqual(full[9], (0, ((0, INT), (1, PAIR), (4, INT), (5, INT))))
        self.assertEqual(full[13], (2, ((0, FREE), (1, ("some", VAR)), (2, FREE), (3, ("cell", FREE)), (4, ("free", 1)))))
        self.assertEqual(least_paper(CODE), LEAST)
        self.assertEqual(least_paper(code=CODE), LEAST)
        self.right(CODE, LEAST)

    def test_some_between(self):
        full = paper_of(CODE)
        for seed in range(60):
            rng = random.Random(seed)
            # A register that is left out is left out until it is written again.
            lines, dropped = [], {}
            for index, (free, regs) in enumerate(full):
                needed = {number for number, _ in LEAST[index][1]}
                before = {number for number, _ in full[index - 1][1]} if index else set()
                if index in (0, 7, 10, 15, 16):
                    dropped = {}
                for number in list(dropped):
                    if number not in before or number in needed or dict(full[index - 1][1]).get(number) != dict(regs).get(number):
                        dropped.pop(number)
                for number, _ in regs:
                    if number not in needed and rng.random() < 0.3:
                        dropped[number] = True
                lines.append((free, tuple(reg for reg in regs if reg[0] not in dropped)))
            self.assertEqual(is_paper(CODE, tuple(lines)), naive_wrong(CODE, tuple(lines)) is None)

    def test_each_way_in_which_a_line_is_wrong(self):
        full = paper_of(CODE)
        for paper in (full, LEAST):
            for index, (free, regs) in enumerate(paper):
                for line in [None, (), (free,), (free, regs, ()), [free, regs], (free, list(regs)), (free, None), (str(free), regs), (None, regs), (free + 1, regs), (free - 1, regs), (bool(free), regs), (free, regs + ((9, INT),)), (free, ((-1, INT),) + regs),
                             (free, regs + ((33, UNIT),)), (free, regs + (None,)), (free, regs + ((),)), 5, "x"]:
                    self.wrong(CODE, with_line(paper, index, line), index)
                if regs:
                    (number, kind), rest = regs[0], regs[1:]
                    for part in [(number,), (number, kind, kind), [number, kind], (number, ("cell", kind)), (number, None), (str(number), kind), (bool(number) if number < 2 else None, kind), (number, list(kind)), number]:
                        self.wrong(CODE, with_line(paper, index, (free, (part,) + rest)), index)
                    self.wrong(CODE, with_line(paper, index, (free, regs + regs[:1])), index)
                if len(regs) > 1:
                    self.wrong(CODE, with_line(paper, index, (free, regs[::-1])), index)

    def test_truths_are_no_integers(self):
        index = 3
        free, regs = LEAST[index]
        self.wrong(CODE, with_line(LEAST, index, (free, (regs[0], (1, ("room", ((INT, 1), (INT, False))))))), index)
        self.wrong(CODE, with_line(LEAST, index, (free, (regs[0], (1, ("room", ((INT, True), (INT, 0))))))), index)
        self.wrong(CODE, with_line(LEAST, 10, (1, ((0, ("free", False)),) + LEAST[10][1][1:])), 10)

    def test_deep_kinds(self):
        def deep(many, inside, truth=True):
            kind = ("room", ((inside, truth),))
            for _ in range(many):
                kind = ("room", ((kind, True),))
            return kind

        for many in (30, 60, 66, 70, 150, 250):
            kind = deep(many, INT)
            code = (3, ((0, (), (("room", 0, (kind,)), ("room", 1, (kind,)), ("cell", 2, reg(0))), HALT),))
            full = paper_of(code)
            self.assertTrue(is_paper(code, full))
            self.assertTrue(is_paper(code, least_paper(code)))
            for index, at in ((1, 0), (2, 1), (3, 0), (3, 2)):
                free, regs = full[index]
                for inside in (kind, deep(many, INT, 1), deep(many, ONE), deep(many, ("cell", INT)), deep(many + 1, INT), deep(many - 1, INT), deep(many, INT, False), deep(many, INT)):
                    held = ("room", ((inside, False),))
                    paper = with_line(full, index, (free, regs[:at] + ((at, ("cell", held) if at == 2 else held),) + regs[at + 1:]))
                    right = repr_of(inside) == repr_of(kind)
                    self.assertEqual(is_paper(code, paper), right)
                    if not right:
                        self.fails(InvalidPaper, "index", index, check_paper, code, paper)

    def test_goals_in_registers(self):
        one = ("one", (INT, UNIT))
        goal, other = ("code", 0, ((2, INT),)), ("code", 0, ((0, UNIT), (3, UNIT)))
        head = ((0, one), (1, goal), (2, INT), (3, UNIT), (4, other), (5, INT))
        rows = (("move", 5, ONE),)
        least = dict(head[:5])

        def lines(*lots):
            return tuple((0, tuple((number, least.get(number, INT)) for number in lot)) for lot in lots)

        for end, lots in [(("pick", 0, (reg(1), reg(4))), ((0, 1, 2, 3, 4), (0, 1, 2, 3, 4))), (("jump", reg(1)), ((1, 2), (1, 2))), (("pick", 0, (reg(1), label(0))), ((0, 1, 2), (0, 1, 2))), (("halt", reg(5)), ((), (5,))), (("halt", reg(2)), ((2,), (2,)))]:
            code = (6, ((0, (), (), HALT), (0, head, rows, end)))
            self.assertIsNone(looked(code))
            self.assertEqual(least_paper(code)[1:], lines(*lots))
            self.right(code, least_paper(code))
        code = (6, ((0, (), (), HALT), (0, head, (("branch", reg(5), reg(1)), ("branch", ONE, ("unfold", ("fold", ("rec", goal), reg(1))))), HALT)))
        self.assertIsNone(looked(code))
        self.assertEqual(least_paper(code)[1:], lines((1, 2, 5), (1, 2), ()))

    def test_what_is_left_out_and_wanted(self):
        # Of the least paper nothing may be left out: it is told behind the row that reads it, or at the end.
        for index, (free, regs) in enumerate(LEAST):
            for at in range(len(regs)):
                paper = with_line(LEAST, index, (free, regs[:at] + regs[at + 1:]))
                told = naive_wrong(CODE, paper)
                self.assertGreaterEqual(told, index)
                self.wrong(CODE, paper, told)
        # At the last line of a block the end is ill.
        self.wrong(CODE, with_line(LEAST, 6, (0, LEAST[6][1][:2])), 6)
        self.wrong(CODE, with_line(LEAST, 15, (0, ())), 15)
        self.wrong(CODE, with_line(LEAST, 14, (2, LEAST[14][1][:1])), 14)
        # A register that the line ahead has not may not stand behind a row that does not write it.
        self.wrong(CODE, with_line(LEAST, 9, (0, ((1, PAIR), (4, INT)))), 9)

    def test_too_few_and_too_many(self):
        full = paper_of(CODE)
        many = len(full)
        for paper in (full, LEAST):
            for few in range(many):
                self.wrong(CODE, paper[:few], few)
            self.wrong(CODE, paper + (None,), many)
            self.wrong(CODE, paper + paper, many)
            self.wrong(CODE, with_line(paper, 4, None)[:6], 4)
            self.wrong(CODE, with_line(paper, many - 1, None) + (None,), many - 1)
        for value in (None, [], list(full), "x", 5, True):
            self.wrong(CODE, value, 0)
        self.wrong(CODE, (), 0)

    def test_wrong_rows_and_ends(self):
        # No paper is right; an ill row k is told at the line behind it.
        say = ("say", ONE)
        ill = (2, ((0, (), (say, ("say", reg(0)), say), HALT),))
        line = (0, ())
        self.wrong(ill, (line,) * 4, 2)
        self.wrong(ill, (line, line), 2)
        self.wrong(ill, (line, None, line, line), 1)
        self.wrong(ill, (line, line, None, line), 2)
        self.wrong(ill, (line,), 1)
        for end in (("halt", reg(0)), None, ("jump", label(7)), ("say", ONE)):
            self.wrong((2, ((0, (), (say,), end),)), (line, line), 1)
            self.wrong((2, ((0, (), (say,), end),)), (line, line, line), 1)
            self.wrong((2, ((0, (), (say,), end),)), (line,), 1)
        self.wrong((2, ((0, (), (None,), HALT),)), (line, line), 1)
        # The end of a block is looked at ahead of the next block.
        self.wrong((2, ((0, (), (), ("halt", reg(0))), (0, (), (), HALT))), (line, None), 0)
        self.wrong((2, ((0, (), (), HALT), (0, (), (), HALT))), (line, None), 1)

    def test_wrong_heads(self):
        for value in STRANGE + ((8, ()), (0, ()), (8, (None,)), (8, ((0, ((0, INT),), (), HALT),)), (8, ((0, (), (), HALT), (0, ((9, INT),), (), HALT)))):
            place = looked(value)
            for paper in ((), None, ((0, ()),)):
                self.fails(IllKinded, "place", place, check_paper, value, paper)
                self.fails(IllKinded, "place", place, is_paper, value, paper)


class Others(PaperCase):
    def test_by_chance(self):
        told = {}
        for seed in range(40):
            rng = random.Random(seed)
            code = CodeMaker(seed).made()
            full, least = paper_of(code), least_paper(code)
            self.right(code, full)
            self.right(code, least)
            for index, (free, regs) in enumerate(least):
                self.assertTrue(set(regs) <= set(full[index][1]))
                for at in range(len(regs)):
                    self.assertFalse(is_paper(code, with_line(least, index, (free, regs[:at] + regs[at + 1:]))))
            for _ in range(20):
                value = changed(rng, rng.choice((full, least)))
                index = naive_wrong(code, value)
                told[index is None] = told.get(index is None, 0) + 1
                if index is None:
                    self.right(code, value)
                else:
                    self.wrong(code, value, index)
                other = changed(rng, code)
                place = code_fault(other)
                if place is not None and len(place) == 2:
                    self.assertIsNotNone(naive_wrong(other, full))
                    self.wrong(other, full, naive_wrong(other, full))
                    self.assertFalse(is_paper(other, least))
        self.assertGreater(min(told.values()), 10)

    def test_met_and_joined(self):
        full = paper_of(CODE)
        for one, other in ((full, LEAST), (LEAST, full)):
            self.assertEqual(met(CODE, one, other), LEAST)
            self.assertEqual(joined(CODE, one, other), full)
            self.assertEqual(met(code=CODE, paper=one, other_paper=other), LEAST)
            self.assertEqual(joined(code=CODE, paper=one, other_paper=other), full)
        # Two papers, each with something that the other one leaves out.
        one = with_line(with_line(LEAST, 8, (0, ((0, INT), (4, INT)))), 7, (0, ((0, INT), (1, PAIR))))
        two = with_line(LEAST, 8, (0, ((1, PAIR), (4, INT))))
        self.right(CODE, one)
        self.right(CODE, two)
        self.assertEqual(met(CODE, one, two), LEAST)
        self.assertEqual(joined(CODE, one, two)[7:9], ((0, ((0, INT), (1, PAIR))), (0, ((0, INT), (1, PAIR), (4, INT)))))
        self.right(CODE, joined(CODE, two, one))

    def test_errors_of_papers(self):
        bad, worse = with_line(LEAST, 4, None), with_line(LEAST, 2, None)
        ill = (1, ((0, (), (), ("halt", reg(0))),))
        for call in (met, joined):
            self.fails(InvalidPaper, "index", 4, call, CODE, bad, worse)
            self.fails(InvalidPaper, "index", 2, call, CODE, worse, bad)
            self.fails(InvalidPaper, "index", 2, call, CODE, LEAST, worse)
            self.fails(IllKinded, "place", (0, 0), call, ill, bad, worse)
            self.fails(InvalidPaper, "index", 0, call, CODE, None, None)
        state = first_state(CODE)
        self.fails(InvalidPaper, "index", 4, forgotten, CODE, bad, state)
        self.fails(InvalidPaper, "index", 4, run_by_paper, CODE, bad, -1)
        self.fails(IllKinded, "place", (0, 0), forgotten, ill, bad, state)
        self.fails(IllKinded, "place", (0, 0), run_by_paper, ill, bad, -1)
        for beats in (-1, True, None, "1"):
            self.fails(InvalidCount, None, None, run_by_paper, CODE, LEAST, beats)
        for call in (paper_of, least_paper):
            self.fails(IllKinded, "place", (0, 0), call, ill)
            for value in STRANGE:
                self.fails(IllKinded, "place", looked(value), call, value)


class Runs(PaperCase):
    def test_forgotten_at_each_step(self):
        wanted = [(None,) * 6, (("int", 5),) + (None,) * 5, (("int", 5), ("place", 0)) + (None,) * 4, (("int", 5), ("place", 0)) + (None,) * 4, (("int", 5), ("place", 0), ("int", 5), None, None, None), (("int", 5), ("place", 0), ("int", 5), ("place", 1), None, None),
                  (("int", 5), None, ("int", 5), ("place", 0), None, None), (("int", 5), None, ("int", 5), ("place", 0), None, None), (None, None, ("int", 5)) + (None,) * 3, (None, ("int", 5)) + (None,) * 4, (None,) * 4 + (("int", 5), None)]
        state = first_state(CODE)
        for registers in wanted:
            before = repr(state)
            told = forgotten(CODE, LEAST, state)
            self.assertEqual(forgotten(code=CODE, paper=LEAST, state=state), told)
            self.assertEqual(told[0], registers)
            self.assertEqual(gone(told), told)
            self.assertEqual(told[2:], state[2:])
            self.assertEqual(repr(state), before)
            self.assertEqual(forgotten(CODE, paper_of(CODE), state), gone(state))
            state = step(CODE, told)[1]

    def test_outcomes_and_things(self):
        self.assertEqual(run_by_paper(CODE, LEAST, 5), (("done", 1, ()), 2))
        self.assertEqual(run_by_paper(CODE, paper_of(CODE), 5), (("done", 1, ()), 2))
        self.assertEqual(run_by_paper(code=CODE, paper=LEAST, beats=0), (("spent", ()), 2))
        self.assertEqual(run_by_paper((1, ((0, (), (), HALT),)), ((0, ()),), 0), (("done", 1, ()), 0))
        # At the halt, and where no beat is left, things count, too.
        code = (2, ((0, (), (("cell", 0, ONE),), ("jump", label(1))), (0, ((0, ("cell", INT)),), (("cell", 1, reg(0)), ("get", 1, reg(1)), ("get", 1, reg(1))), ("halt", reg(1)))))
        self.assertEqual([run_by_paper(code, least_paper(code), beats) for beats in (0, 1)], [(("spent", ()), 1), (("done", 1, ()), 2)])
        last = (2, ((0, (), (("cell", 0, ONE),), HALT),))
        self.assertEqual(run_by_paper(last, paper_of(last), 0), (("done", 1, ()), 1))
        self.assertEqual(run_by_paper(last, least_paper(last), 0), (("done", 1, ()), 0))

    def as_told(self, code, paper, beats):
        outcome, most = run_by_paper(code, paper, beats)
        wanted, states = naive_run(code, beats, lambda state: forgotten(code, paper, state))
        self.assertEqual((outcome, most), (wanted, max(len(state[1]) for state in states)))
        self.assertEqual(outcome, run(code, beats))
        return most

    def test_as_told_step_by_step(self):
        for seed in range(30):
            code = CodeMaker(seed).made()
            for beats in (0, 3, 25):
                full = self.as_told(code, paper_of(code), beats)
                least = self.as_told(code, least_paper(code), beats)
                self.assertLessEqual(least, full)
                alone = max(len(state[1]) for state in naive_run(code, beats, gone)[1])
                self.assertLessEqual(full, alone)

    def test_rings_of_things(self):
        # A cell that leads to itself by a tagged thing is lost each time round.
        rec = ("rec", ("cell", ("one", (UNIT, VAR))))
        one = ("one", (UNIT, rec))
        rows = (("room", 1, ()), ("tagged", 1, 0, one, reg(1)), ("cell", 2, reg(1)), ("tagged", 1, 1, one, ("fold", rec, reg(2))), ("set", 2, reg(1)), ("get", 1, reg(2)), ("cell", 3, reg(2)), ("set", 3, reg(2)), ("sum", "take", 0, reg(0), ONE), ("branch", reg(0), label(2)))
        code = (4, ((0, (), (("move", 0, ("int", 6)),), ("jump", label(1))), (0, ((0, INT),), rows, ("jump", label(1))), (0, (), (), HALT)))
        self.assertIsNone(looked(code))
        for beats in (0, 3, 20):
            self.as_told(code, paper_of(code), beats)
            self.as_told(code, least_paper(code), beats)

    def test_compiled(self):
        for text, number, letters in TEXTS[5:]:
            for registers in (9, 32):
                code = compiled_text(text, registers, False)
                self.assertEqual(run_by_paper(code, least_paper(code), 1000)[0], ("done", number, letters))
        for text, _, _ in TEXTS[9:12]:
            code = compiled_text(text, 9, True)
            self.assertLessEqual(self.as_told(code, least_paper(code), 20), self.as_told(code, paper_of(code), 20))

    def test_thousands_of_beats(self):
        begun = time.time()
        code = compiled_text("fun f ( n ) = if n then f ( n - 1 ) else 7 in f ( 9000 )", 8, False)
        outcome, most = run_by_paper(code, least_paper(code), 20000)
        self.assertEqual(outcome, ("done", 7, ()))
        self.assertLess(most, 20)
        code = compiled_text(LIST + "fun up ( n , l ) = if n then up ( n - 1 , Cons ( n , l ) ) else l in fun sum ( l ) = match l { Nil -> 0 | Cons ( x , r ) -> x + sum ( r ) } in sum ( up ( 1500 , Nil ) )", 8, False)
        outcome, most = run_by_paper(code, least_paper(code), 20000)
        self.assertEqual(outcome, ("done", 1500 * 1501 // 2, ()))
        self.assertGreater(most, 3000)
        self.assertLess(time.time() - begun, 10)


if __name__ == "__main__":
    unittest.main()
