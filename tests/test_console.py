import random
import time
import unittest

from kindscarried.collector import gone
from kindscarried.commands import command_told, outcome_text
from kindscarried.compiler import compiled, compiled_text, run_level, stages
from kindscarried.console import Console
from kindscarried.core_parts import size_of
from kindscarried.errors import CarriedError, Clash, IllKinded, InvalidCommand, InvalidCount, InvalidOctets, InvalidPart, InvalidText, Refused, TooMany, Twice, Unknown
from kindscarried.looker import looked
from kindscarried.machine import first_state, step
from kindscarried.octets import code_told, octets_of
from kindscarried.papers import forgotten, least_paper
from kindscarried.passes import optimised
from kindscarried.source_texts import source_told
from kindscarried.to_core import to_core
from tests.common import Case
from tests.naive_code import CodeMaker
from tests.programs import LIST, TEXTS

INT = ("int",)
ONE = ("int", 1)
SUM = "fun sum ( n ) = if n then say n ; n + sum ( n - 1 ) else 0 in sum ( 3 )"


def core_of(text):
    return to_core(source_told(text))


class Plain:
    """The console told plainly: all states are kept as they are."""

    def __init__(self):
        self.named = {}
        self.machine = None
        self.journal = ()

    def execute(self, command):
        pieces = command_told(command)
        answer = getattr(self, "do_" + pieces[0])(*pieces[1:])
        self.journal += (command,)
        return answer

    def standing(self, name, sort):
        if name not in self.named:
            raise Unknown(name)
        if self.named[name][0] != sort:
            raise Refused("other")
        return self.named[name][1]

    def do_read(self, name, text):
        self.named[name] = ("core", core_of(text))
        return "ok"

    def do_better(self, name, other):
        self.named[other] = ("core", optimised(self.standing(name, "core")))
        return "ok"

    def do_size(self, name):
        return "%d" % size_of(self.standing(name, "core"))

    def do_run(self, name, level, beats):
        program = self.standing(name, "core")
        if level > 4:
            raise InvalidPart("level")
        return outcome_text(run_level(level, stages(program, 32)[level], beats))

    def do_code(self, name, other, registers):
        self.named[other] = ("code", compiled(self.standing(name, "core"), registers))
        return "ok"

    def do_octets(self, name):
        return " ".join(str(octet) for octet in octets_of(self.standing(name, "code")))

    def do_load(self, name, octets):
        code = code_told(octets)
        if looked(code) is not None:
            raise IllKinded(looked(code))
        self.named[name] = ("code", code)
        return "ok"

    def do_drop(self, name):
        if name not in self.named:
            raise Unknown(name)
        del self.named[name]
        return "ok"

    def do_names(self):
        return " ".join(sorted(self.named)) or "none"

    def do_start(self, name):
        code = self.standing(name, "code")
        self.machine = [code, [first_state(code)], [], None]
        return self.do_here()

    def there(self, halted=True):
        if self.machine is None or (not halted and self.machine[3] is not None):
            raise Refused("machine")
        return self.machine

    def do_on(self, many):
        machine = self.there()
        for _ in range(many):
            if machine[3] is not None:
                break
            told = step(machine[0], machine[1][-1])
            if told[0] == "halt":
                machine[3] = told[1]
                machine[1].append(machine[1][-1])
                machine[2].append(None)
            else:
                machine[1].append(told[1])
                machine[2].append(told[2])
        return self.do_here()

    def do_back(self, many):
        machine = self.there()
        for _ in range(many):
            if machine[2]:
                machine[1].pop()
                machine[2].pop()
                machine[3] = None
        return self.do_here()

    def do_here(self):
        machine = self.there()
        if machine[3] is not None:
            return "done %d" % machine[3]
        return "block %d row %d" % machine[1][-1][2:]

    def do_said(self):
        return " ".join(str(letter) for letter in self.there()[2] if letter is not None) or "none"

    def told(self, worth):
        return "none" if worth is None else "%s %d" % worth

    def do_show(self, number):
        registers = self.there()[1][-1][0]
        if number >= len(registers):
            raise InvalidPart("register")
        return self.told(registers[number])

    def do_thing(self, address):
        things = self.there()[1][-1][1]
        if address >= len(things):
            raise InvalidPart("thing")
        thing = things[address]
        worths = thing[1] if thing[0] == "room" else thing[-1:]
        first = "tagged %d" % thing[1] if thing[0] == "tagged" else thing[0]
        return "".join([first] + ["; " + self.told(worth) for worth in worths])

    def line(self):
        code, states, _, _ = self.there(False)
        block, row = states[-1][2:]
        return least_paper(code)[sum(len(other[2]) + 1 for other in code[1][:block]) + row]

    def do_known(self):
        return " ".join(str(number) for number, _ in self.line()[1]) or "none"

    def do_clear(self):
        machine = self.there(False)
        machine[1][-1] = gone(machine[1][-1])
        return str(len(machine[1][-1][1]))

    def do_forget(self):
        machine = self.there(False)
        machine[1][-1] = forgotten(machine[0], least_paper(machine[0]), machine[1][-1])
        return str(len(machine[1][-1][1]))


class ConsoleCase(Case):
    def setUp(self):
        self.console = Console()
        self.plain = Plain()

    def says(self, command, answer=None):
        """The answer, which is as the plain console tells it."""
        told = self.console.execute(command)
        self.assertIs(type(told), str)
        self.assertEqual(told, self.plain.execute(command))
        self.assertEqual(self.console.journal, self.plain.journal)
        if answer is not None:
            self.assertEqual(told, answer)
        return told

    def refuses(self, command, error, field=None, value=None):
        """The error, which changes nothing."""
        journal = self.console.journal
        self.fails(error, field, value, self.console.execute, command)
        self.fails(error, field, value, self.plain.execute, command)
        self.assertEqual(self.console.journal, journal)
        if self.plain.machine:
            for other in ("here", "said"):
                self.says(other)
        self.says("names")


class Examples(ConsoleCase):
    def test_document(self):
        for command, answer in [("read a let x = say 3 in 4 + 5", "ok"), ("run a 0 9", "done 9 said 3"), ("better a b", "ok"), ("run b 4 9", "done 9 said 3"),
                                ("code b c 8", "ok"), ("start c", "block 0 row 0"), ("on 1000", "done 9"), ("said", "3"), ("back 1000", "block 0 row 0"), ("names", "a b c")]:
            self.says(command, answer)

    def test_attributes(self):
        console = Console()
        self.assertEqual(console.journal, ())
        self.assertIs(type(console.journal), tuple)
        self.assertEqual(console.execute(command="names"), "none")
        self.assertEqual(console.journal, ("names",))
        # Each console has its own names.
        console.execute("read a 1")
        self.assertEqual(Console().execute("names"), "none")
        self.assertIn("execute", vars(Console))


class Names(ConsoleCase):
    def test_programs(self):
        self.says("names", "none")
        self.says("read sum " + SUM, "ok")
        self.says("size sum", str(size_of(core_of(SUM))))
        for level in range(5):
            self.says("run sum %d 200" % level, "done 6 said 3 2 1")
            self.says("run sum %d 0" % level)
        self.says("run sum 0 2", "spent said 3 2")
        self.says("better sum better", "ok")
        self.says("better sum sum", "ok")
        self.says("run sum 4 200", "done 6 said 3 2 1")
        self.says("names", "better sum")
        self.says("read sum 5", "ok")
        self.says("size sum", "1")
        self.says("drop sum", "ok")
        self.says("names", "better")
        self.says("drop better", "ok")
        self.says("names", "none")

    def test_code_and_octets(self):
        self.says("read a say 7 ; 2", "ok")
        self.says("code a c 8", "ok")
        octets = self.says("octets c", " ".join(str(octet) for octet in octets_of(compiled_text("say 7 ; 2", 8, False))))
        self.says("load d " + octets, "ok")
        self.says("octets d", octets)
        self.says("start d", "block 0 row 0")
        self.says("on 999999", "done 2")
        self.says("said", "7")
        self.says("names", "a c d")

    def test_a_name_becomes_the_other_one(self):
        self.says("read a 1", "ok")
        self.says("code a a 8", "ok")
        self.refuses("size a", Refused)
        self.refuses("code a b 8", Refused)
        self.refuses("run a 0 1", Refused)
        self.refuses("better a b", Refused)
        self.says("octets a")
        self.says("start a", "block 0 row 0")
        self.says("read a 2", "ok")
        self.refuses("octets a", Refused)
        self.refuses("start a", Refused)
        self.says("size a", "1")
        self.says("load a " + " ".join(str(octet) for octet in octets_of((1, ((0, (), (), ("halt", ONE)),)))), "ok")
        self.refuses("size a", Refused)
        self.says("names", "a")

    def test_errors(self):
        for word in ("size a", "better a b", "run a 0 1", "run a 7 1", "code a b 8", "code a b 7", "octets a", "drop a", "start a"):
            self.refuses(word, Unknown, "word", "a")
        self.says("read a 1")
        self.says("code a c 8")
        for command, error, field, value in [
                ("run a 5 1", InvalidPart, None, None), ("run a 999999 1", InvalidPart, None, None), ("run c 5 1", Refused, None, None), ("code a b 7", InvalidCount, None, None), ("code a b 33", InvalidCount, None, None), ("code c b 7", Refused, None, None),
                ("read a 1 + 007", InvalidText, "index", 4), ("read b ", InvalidText, "index", 0), ("read a x", Unknown, "word", "x"), ("read a fn ( x , x ) x", Twice, "word", "x"), ("read a ( )", Clash, "places", ((), ())),
                ("read a " + "say 1 ; " * 30 + "1", TooMany, "count", 20), ("load a 1 2", InvalidOctets, "index", 2), ("load a 999", InvalidOctets, "index", 0), ("load a 1 0", IllKinded, "place", (0,)), ("load b 1 1 0 0 0 2 1 0", IllKinded, "place", (0, 0)),
                ("load b 0 0", IllKinded, "place", ()), ("names ", InvalidCommand, "index", 5), ("on 07", InvalidCommand, "index", 4), ("Names", InvalidCommand, "index", 0), ("size abcdefghi", InvalidCommand, "index", 13), ("octets a", Refused, None, None), ("drop b", Unknown, "word", "b")]:
            self.refuses(command, error, field, value)
        for value in (None, 5, ("names",), True):
            self.refuses(value, InvalidCommand, "index", 0)
        wide = "fun f ( a , b , c , d , e , g ) = if a then f ( g , e , d , c , b , a ) else b in f ( 1 , 2 , 3 , 4 , 5 , 6 )"
        self.says("read w " + wide)
        self.refuses("code w c 8", TooMany, "count", 6)
        self.says("size a", "1")
        self.says("octets c")
        # Found's errors ahead of to_core's.
        kinds = "data d ( a ) = D ( a , a ) ; " + "let x = 1 in " + "( fn ( y ) z ) ( x )"
        self.refuses("read a " + kinds, Unknown, "word", "z")

    def test_octets_of_kinds_that_stand_too_deep(self):
        rec = INT
        for _ in range(57):
            rec = ("cell", rec)
        code = (2, ((0, (), (("room", 0, (rec,)),), ("halt", ONE)),))
        self.says("load a " + " ".join(str(octet) for octet in octets_of(code)), "ok")
        self.says("octets a")
        self.console.named["a"] = ("code", (2, ((0, (), (("room", 0, (("cell", ("cell", ("cell", rec))),)),), ("halt", ONE)),)))
        self.fails(InvalidPart, None, None, self.console.execute, "octets a")


class Machines(ConsoleCase):
    def test_none_at_first(self):
        for command in ("on 1", "back 1", "here", "said", "show 0", "thing 0", "known", "clear", "forget"):
            self.refuses(command, Refused)

    def start(self, text, registers=8):
        self.says("read a " + text, "ok")
        self.says("code a c %d" % registers, "ok")
        self.says("start c", "block 0 row 0")

    def look(self, registers, things=6):
        for number in range(registers):
            self.says("show %d" % number)
        for address in range(things):
            try:
                answer = self.console.execute("thing %d" % address)
            except InvalidPart:
                self.fails(InvalidPart, None, None, self.plain.execute, "thing %d" % address)
            else:
                self.assertEqual(answer, self.plain.execute("thing %d" % address))

    def test_step_by_step(self):
        self.start(SUM, 9)
        for number in range(9):
            self.says("show %d" % number, "none")
        self.refuses("show 9", InvalidPart)
        self.refuses("thing 0", InvalidPart)
        while not self.says("on 1").startswith("done"):
            self.says("known")
            self.says("said")
            self.look(9)
        self.says("said", "3 2 1")
        self.says("here", "done 6")
        while self.says("back 1") != "block 0 row 0":
            self.says("known")
            self.says("said")
            self.look(9)
        self.says("said", "none")

    def test_halt(self):
        self.start("say 1 ; 7")
        self.says("on 0", "block 0 row 0")
        self.says("on 100", "done 7")
        for command in ("known", "clear", "forget"):
            self.refuses(command, Refused)
        for command in ("here", "on 5", "on 0", "back 0"):
            self.says(command, "done 7")
        self.says("said", "1")
        self.look(8)
        # The halt is a step.
        last = self.says("back 1")
        self.assertTrue(last.startswith("block"))
        self.says("known")
        self.says("clear")
        self.says("on 1", "done 7")
        self.says("back 999999", "block 0 row 0")
        self.says("back 3", "block 0 row 0")
        self.says("said", "none")

    def test_on_again_behind_back(self):
        self.start(TEXTS[22][0], 12)
        rng = random.Random(4)
        for _ in range(60):
            self.says("%s %d" % (rng.choice(("on", "on", "back")), rng.randrange(12)))
            self.says("said")
            self.look(12, 4)

    def test_the_machine_keeps_its_code(self):
        self.start(SUM)
        self.says("on 5")
        self.says("drop c", "ok")
        self.says("on 5")
        self.says("read c 5")
        self.says("known")
        self.says("on 1000", "done 6")
        self.says("code c c 8")
        self.says("here", "done 6")
        self.says("start c", "block 0 row 0")
        self.says("on 1000", "done 5")
        self.refuses("start a", Refused)
        self.says("here", "done 5")
        self.refuses("start b", Unknown, "word", "b")
        self.says("here", "done 5")

    def test_clear_and_forget(self):
        # They change what show, thing and they themselves tell, and nothing else.
        text = LIST + "fun up ( n ) = if n then Cons ( n , up ( n - 1 ) ) else Nil in fun sum ( l ) = match l { Nil -> 0 | Cons ( x , r ) -> say x ; x + sum ( r ) } in sum ( up ( 4 ) )"
        self.start(text, 9)
        other = Console()
        for command in self.console.journal:
            other.execute(command)
        rng = random.Random(11)
        fewer = 0
        for _ in range(120):
            for _ in range(rng.randrange(3)):
                before = len(self.plain.machine[1][-1][1])
                if self.plain.machine[3] is None:
                    fewer += int(self.says(rng.choice(("clear", "forget")))) < before
            self.look(9, 3)
            command = "%s %d" % (rng.choice(("on", "on", "back")), rng.randrange(20))
            self.assertEqual(self.says(command), other.execute(command))
            self.assertEqual(self.says("said"), other.execute("said"))
            if self.plain.machine[3] is None:
                self.assertEqual(self.says("known"), other.execute("known"))
        self.assertGreater(fewer, 10)
        self.says("on 999999", "done 10")
        self.says("back 999999", "block 0 row 0")

    def test_what_clear_puts_away_comes_back(self):
        code = (3, ((0, (), (("cell", 0, ONE), ("cell", 0, ("int", 2)), ("cell", 1, ("register", 0)), ("get", 2, ("register", 0))), ("halt", ("register", 2))),))
        self.says("load c " + " ".join(str(octet) for octet in octets_of(code)))
        self.says("start c")
        self.says("clear", "0")
        self.says("forget", "0")
        self.says("on 2", "block 0 row 2")
        self.says("show 0", "place 1")
        self.says("thing 1", "cell; int 2")
        self.says("clear", "1")
        self.says("show 0", "place 0")
        self.refuses("thing 1", InvalidPart)
        self.says("clear", "1")
        self.says("on 1", "block 0 row 3")
        self.says("show 1", "place 1")
        self.says("thing 1", "cell; place 0")
        self.says("forget", "1")
        self.says("show 1", "none")
        self.says("back 1", "block 0 row 2")
        self.says("show 0", "place 0")
        self.says("back 1", "block 0 row 1")
        self.says("show 0", "place 0")
        self.says("thing 0", "cell; int 1")
        self.says("on 1")
        self.says("show 0", "place 1")
        self.says("on 5", "done 2")
        self.says("show 2", "int 2")

    def test_things(self):
        one = ("one", (INT, ("code", 0, ())))
        rows = (("room", 0, (INT, INT, ("code", 0, ()))), ("store", 0, 1, ("int", -4)), ("store", 0, 2, ("label", 1)), ("tagged", 1, 1, one, ("label", 1)), ("cell", 2, ("register", 1)), ("room", 3, ()), ("move", 3, ("label", 0)))
        code = (5, ((0, (), rows, ("halt", ONE)), (0, (), (), ("halt", ONE))))
        self.says("load c " + " ".join(str(octet) for octet in octets_of(code)))
        self.says("start c")
        self.says("on 7", "block 0 row 7")
        for number, answer in enumerate(("place 0", "place 1", "place 2", "label 0", "none")):
            self.says("show %d" % number, answer)
        for address, answer in enumerate(("room; none; int -4; label 1", "tagged 1; label 1", "cell; place 1", "room")):
            self.says("thing %d" % address, answer)
        self.refuses("thing 4", InvalidPart)
        self.refuses("show 5", InvalidPart)
        self.says("known", "none")
        self.says("clear", "3")
        self.says("forget", "0")

    def test_many_steps(self):
        begun = time.time()
        self.console.execute("read a " + LIST + "fun up ( n , l ) = if n then up ( n - 1 , Cons ( n , l ) ) else l in fun f ( l ) = f ( up ( 900 , l ) ) in f ( Nil )")
        self.console.execute("code a c 8")
        self.console.execute("start c")
        here = self.console.execute("on 20000")
        places = [self.console.execute("show %d" % number) for number in range(8)]
        for _ in range(50):
            self.console.execute("forget")
        self.console.execute("back 12000")
        self.assertEqual(self.console.execute("on 12000"), here)
        self.assertEqual([place.split()[0] for place in places], [self.console.execute("show %d" % number).split()[0] for number in range(8)])
        self.assertEqual(self.console.execute("back 999999"), "block 0 row 0")
        self.assertLess(time.time() - begun, 10)


class Journals(ConsoleCase):
    def test_a_new_console_answers_alike(self):
        commands = ["read a " + SUM, "read b 1 + 007", "code a c 9", "start c", "on 9", "clear", "known", "back 3", "forget", "on 2", "drop a", "names", "here", "said", "show 0", "octets c", "bad", "on 500", "clear", "back 2", "here"]
        answers, accepted = [], []
        for command in commands:
            try:
                answers.append(self.says(command))
                accepted.append(command)
            except CarriedError:
                pass
        self.assertEqual(self.console.journal, tuple(accepted))
        other = Console()
        self.assertEqual([other.execute(command) for command in self.console.journal], answers)
        self.assertEqual(other.journal, self.console.journal)

    def test_by_chance(self):
        texts = ["1", "say 2 ; 3", SUM, TEXTS[16][0], TEXTS[14][0], "x", "( )", "1 + 007", "fn ( x ) x"]
        octets = [" ".join(str(octet) for octet in octets_of(CodeMaker(seed).made())) for seed in range(3)] + ["1 0", "5", "1 1 0 0 0 2 0 2"]
        for seed in range(12):
            rng = random.Random(seed)
            self.setUp()
            answers = []
            for _ in range(90):
                name, other, number = rng.choice("abc"), rng.choice("abc"), rng.randrange(12)
                command = rng.choice(["read %s %s" % (name, rng.choice(texts)), "better %s %s" % (name, other), "size " + name, "run %s %d %d" % (name, rng.randrange(7), number), "code %s %s %d" % (name, other, 6 + number), "octets " + name,
                                      "load %s %s" % (name, rng.choice(octets)), "drop " + name, "names", "start " + name, "start " + name, "on %d" % number, "on %d" % number, "back %d" % number, "here", "said", "show %d" % number, "thing %d" % number, "known", "clear", "forget", "on 0%d" % number])
                try:
                    answers.append(self.console.execute(command))
                except CarriedError as error:
                    self.fails(type(error), None, None, self.plain.execute, command)
                else:
                    self.assertEqual(self.plain.execute(command), answers[-1])
            self.assertEqual(self.console.journal, self.plain.journal)
            again = Console()
            self.assertEqual([again.execute(command) for command in self.console.journal], answers)


if __name__ == "__main__":
    unittest.main()
