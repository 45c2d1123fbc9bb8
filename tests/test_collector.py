import random
import unittest

from kindscarried.collector import gone, reached, run_collected
from kindscarried.errors import IllKinded, InvalidCount
from kindscarried.looker import looked
from kindscarried.machine import run
from tests.common import STRANGE, Case
from tests.naive_code import CodeMaker
from tests.naive_machine import naive_run

INT = ("int",)
ONE = ("int", 1)
HALT = ("halt", ONE)


def place(a):
    return ("place", a)


def reg(r):
    return ("register", r)


def naive_reached(state):
    """All addresses to which steps from the registers lead, step by step."""
    found = {worth[1] for worth in state[0] if worth and worth[0] == "place"}
    while True:
        more = set(found)
        for address in found:
            thing = state[1][address]
            for worth in thing[1] if thing[0] == "room" else thing[-1:]:
                if worth and worth[0] == "place":
                    more.add(worth[1])
        if more == found:
            return tuple(sorted(found))
        found = more


class States(Case):
    def state(self, registers, things, addresses, wanted):
        state = (registers, things, 3, 7)
        before = repr(state)
        self.assertEqual(reached(state), addresses)
        self.assertEqual(reached(state=state), addresses)
        self.assertEqual(naive_reached(state), addresses)
        told = gone(state)
        self.assertEqual(told, wanted + (3, 7))
        self.assertEqual(gone(state=state), told)
        self.assertEqual(gone(told), told)
        self.assertEqual(reached(told), tuple(range(len(told[1]))))
        self.assertEqual(len(told[1]), len(addresses))
        self.assertEqual(repr(state), before)

    def test_nothing(self):
        self.state((None, None), (), (), ((None, None), ()))
        self.state((("int", 0), None, ("label", 0)), (("room", ()), ("cell", ONE)), (), ((("int", 0), None, ("label", 0)), ()))

    def test_integers_and_labels_lead_nowhere(self):
        self.state((("int", 1), ("label", 1), place(2)), (("cell", ONE), ("cell", ("int", 0)), ("room", (("int", 0), ("label", 1), None))), (2,), ((("int", 1), ("label", 1), place(0)), (("room", (("int", 0), ("label", 1), None)),)))

    def test_by_things(self):
        things = (("cell", place(3)), ("tagged", 0, place(1)), ("room", (None, place(4), ("int", 9))), ("room", ()), ("tagged", 7, place(0)), ("cell", place(2)))
        self.state((None, place(2)), things, (0, 2, 3, 4), ((None, place(1)), (("cell", place(2)), ("room", (None, place(3), ("int", 9))), ("room", ()), ("tagged", 7, place(0)))))
        self.state((place(5), place(5)), things, (0, 2, 3, 4, 5), ((place(4), place(4)), (("cell", place(2)), ("room", (None, place(3), ("int", 9))), ("room", ()), ("tagged", 7, place(0)), ("cell", place(1)))))
        self.state((place(4), place(3)), things, (0, 3, 4), ((place(2), place(1)), (("cell", place(1)), ("room", ()), ("tagged", 7, place(0)))))

    def test_rings(self):
        things = (("cell", place(0)), ("room", (place(2), None)), ("cell", place(1)), ("cell", place(4)), ("tagged", 1, place(3)))
        self.state((None,), things, (), ((None,), ()))
        self.state((place(0),), things, (0,), ((place(0),), things[:1]))
        self.state((None, place(2)), things, (1, 2), ((None, place(1)), (("room", (place(1), None)), ("cell", place(0)))))
        self.state((place(3), place(1)), things, (1, 2, 3, 4), ((place(2), place(0)), (("room", (place(1), None)), ("cell", place(0)), ("cell", place(3)), ("tagged", 1, place(2)))))

    def test_long_chains(self):
        many = 5000
        things = tuple(("cell", place(k + 1) if k + 1 < many else ONE) for k in range(many))
        self.assertEqual(reached(((place(0),), things, 0, 0)), tuple(range(many)))
        self.assertEqual(gone(((place(many - 2), None), things, 0, 0)), ((place(0), None), (("cell", place(1)), ("cell", ONE)), 0, 0))

    def test_by_chance(self):
        for seed in range(300):
            rng = random.Random(seed)
            many = rng.randrange(1, 12)

            def worth():
                return rng.choice([None, ("int", 1), ("label", 0), place(rng.randrange(many)), place(rng.randrange(many))])

            things = tuple(rng.choice([("room", tuple(worth() for _ in range(rng.randrange(3)))), ("cell", worth() or ONE), ("tagged", 3, worth() or ONE)]) for _ in range(many))
            state = (tuple(worth() for _ in range(3)), things, 0, 1)
            wanted = naive_reached(state)
            self.assertEqual(reached(state), wanted)
            told = gone(state)
            self.assertEqual(told[2:], state[2:])
            self.assertEqual(gone(told), told)

            def moved(found):
                return place(wanted.index(found[1])) if found and found[0] == "place" else found

            self.assertEqual(told[0], tuple(moved(found) for found in state[0]))
            left = [things[address] for address in wanted]
            self.assertEqual(told[1], tuple(("room", tuple(moved(found) for found in thing[1])) if thing[0] == "room" else thing[:-1] + (moved(thing[-1]),) for thing in left))


class Runs(Case):
    def test_whatever_the_moments(self):
        ends = {}
        for seed in range(60):
            rng = random.Random(seed)
            code = CodeMaker(seed).made()
            for beats in (0, 2, 12):
                outcome = run(code, beats)
                ends[outcome[0]] = True
                some = tuple(rng.randrange(-3, 60) for _ in range(20))
                for moments in ((), tuple(range(100)), some, some + some, (0,), (10 ** 6, -5, 3), (5, 5, 5)):
                    self.assertEqual(run_collected(code, beats, moments), outcome)
        self.assertEqual(len(ends), 2)
        self.assertEqual(run_collected(code=code, beats=2, moments=(1,)), run(code, 2))

    def test_things_that_are_made_again_and_again(self):
        # Each time round a thing is lost; places are read behind the taking off.
        rows = (("cell", 2, reg(0)), ("room", 3, (INT, ("cell", INT))), ("store", 3, 1, reg(2)), ("sum", "take", 0, reg(0), ONE), ("load", 2, reg(3), 1), ("get", 1, reg(2)), ("say", reg(1)), ("branch", reg(0), ("label", 2)))
        code = (4, ((0, (), (("move", 0, ("int", 40)),), ("jump", ("label", 1))), (0, ((0, INT),), rows, ("jump", ("label", 1))), (0, (), (), HALT)))
        self.assertIsNone(looked(code))
        wanted = ("done", 1, tuple(range(40, 0, -1)))
        for moments in ((), tuple(range(400)), tuple(range(0, 400, 7)), (300, 2, 2, 50)):
            self.assertEqual(run_collected(code, 100, moments), wanted)
        self.assertEqual(naive_run(code, 100, gone)[0], wanted)
        self.assertLessEqual(max(len(state[1]) for state in naive_run(code, 100, gone)[1]), 4)

    def test_rings_in_runs(self):
        rec = ("rec", ("cell", ("one", (("room", ()), ("var", 0)))))
        one = ("one", (("room", ()), rec))
        rows = (("room", 0, ()), ("tagged", 0, 0, one, reg(0)), ("cell", 1, reg(0)), ("tagged", 0, 1, one, ("fold", rec, reg(1))), ("set", 1, reg(0)), ("room", 0, ()), ("cell", 2, reg(1)), ("get", 1, reg(2)), ("get", 0, reg(1)))
        code = (3, ((0, (), rows, ("pick", 0, (("label", 1), ("label", 1)))), (0, (), (), ("halt", ("int", 3)))))
        self.assertIsNone(looked(code))
        for moments in ((), tuple(range(20)), (6,), (8, 9)):
            self.assertEqual(run_collected(code, 1, moments), ("done", 3, ()))

    def test_errors(self):
        right = (1, ((0, (), (), HALT),))
        ill = (1, ((0, (), (), ("halt", reg(0))),))
        for beats in (-1, True, None, "1", ()):
            self.fails(InvalidCount, None, None, run_collected, right, beats, (0,))
            self.fails(IllKinded, "place", (0, 0), run_collected, ill, beats, (0,))
        for value in STRANGE:
            self.fails(IllKinded, "place", looked(value), run_collected, value, 5, ())


if __name__ == "__main__":
    unittest.main()
