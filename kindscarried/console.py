"""A console: programs and code by names, and a machine that goes on and back."""

from kindscarried.commands import command_told, outcome_text
from kindscarried.compiler import compiled, run_level, stages
from kindscarried.core_parts import size_of
from kindscarried.errors import IllKinded, InvalidPart, Refused, Unknown
from kindscarried.looker import looked
from kindscarried.octets import code_told, octets_of
from kindscarried.paper_run import line_numbers
from kindscarried.passes import optimised
from kindscarried.source_texts import source_told
from kindscarried.to_core import to_core
from kindscarried.console_machine import Trace

PROGRAM = "program"
CODE = "code"
LEVELS = 5
REGISTERS = 32
OK = "ok"
NONE = "none"


class Console:
    """What stands by names is in named, as (PROGRAM or CODE, the core program or code); trace is the machine."""

    def __init__(self):
        self.journal = ()
        self.named = {}
        self.trace = None

    def execute(self, command):
        """The answer to a command; one that raises an error changes nothing."""
        pieces = command_told(command)
        deed = DEEDS[pieces[0]]
        rest = pieces[1:]
        answer = deed(self, *rest)
        self.journal = self.journal + (command,)
        return answer

    def named_as(self, sort, name):
        """The program or code that stands at a name."""
        if name not in self.named:
            raise Unknown(name)
        standing, value = self.named[name]
        if standing != sort:
            raise Refused("at this name stands the other one of program and code")
        return value

    def keep(self, sort, name, value):
        self.named[name] = (sort, value)
        return OK

    def machine(self):
        if self.trace is None:
            raise Refused("there is no machine")
        return self.trace

    def machine_under_way(self):
        """The machine, which did not halt."""
        trace = self.machine()
        if trace.result is not None:
            raise Refused("the machine halted")
        return trace


def _spaced(values):
    """The texts of these values with spaces between, none if there are none."""
    return " ".join([str(value) for value in values]) if values else NONE


def _read(console, name, text):
    return console.keep(PROGRAM, name, to_core(source_told(text)))


def _better(console, name, other):
    return console.keep(PROGRAM, other, optimised(console.named_as(PROGRAM, name)))


def _size(console, name):
    return str(size_of(console.named_as(PROGRAM, name)))


def _run(console, name, level, beats):
    program = console.named_as(PROGRAM, name)
    if level >= LEVELS:
        raise InvalidPart("there is no such level")
    return outcome_text(run_level(level, stages(program, REGISTERS)[level], beats))


def _code(console, name, other, registers):
    return console.keep(CODE, other, compiled(console.named_as(PROGRAM, name), registers))


def _octets(console, name):
    return _spaced(octets_of(console.named_as(CODE, name)))


def _load(console, name, octets):
    code = code_told(octets)
    place = looked(code)
    if place is not None:
        raise IllKinded(place)
    return console.keep(CODE, name, code)


def _drop(console, name):
    if name not in console.named:
        raise Unknown(name)
    console.named.pop(name)
    return OK


def _names(console):
    return _spaced(sorted(console.named))


def _start(console, name):
    console.trace = Trace(console.named_as(CODE, name))
    return _here(console)


def _on(console, many):
    console.machine().go_on(many)
    return _here(console)


def _back(console, many):
    console.machine().go_back(many)
    return _here(console)


def _here(console):
    trace = console.machine()
    if trace.result is not None:
        return "done " + str(trace.result)
    return _spaced(("block", trace.block_number, "row", trace.row_number))


def _said(console):
    return _spaced(console.machine().said_so_far())


def _worth_text(worth):
    return NONE if worth is None else _spaced(worth)


def _show(console, number):
    registers = console.machine().registers
    if number >= len(registers):
        raise InvalidPart("there is no such register")
    return _worth_text(registers[number])


def _thing(console, address):
    things = console.machine().things
    if address >= len(things):
        raise InvalidPart("there is no thing at this address")
    thing = things[address]
    worths = thing[1] if thing[0] == "room" else (thing[-1],)
    first = _spaced(thing[:-1])
    return "; ".join([first] + [_worth_text(worth) for worth in worths])


def _known(console):
    trace = console.machine_under_way()
    line = line_numbers(trace.code)[trace.block_number] + trace.row_number
    _, regs = trace.line_paper()[line]
    return _spaced([number for number, _ in regs])


def _clear(console):
    trace = console.machine_under_way()
    trace.drop_things()
    return str(len(trace.things))


def _forget(console):
    trace = console.machine_under_way()
    trace.forget()
    return str(len(trace.things))


DEEDS = {
    "read": _read, "better": _better, "size": _size, "run": _run, "code": _code, "octets": _octets,
    "load": _load, "drop": _drop, "names": _names, "start": _start, "on": _on, "back": _back, "here": _here,
    "said": _said, "show": _show, "thing": _thing, "known": _known, "clear": _clear, "forget": _forget,
}
