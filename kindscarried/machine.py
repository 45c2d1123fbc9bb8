"""The machine of code: its states, its steps and its runs."""

from kindscarried.code_run import CodeRun
from kindscarried.errors import IllKinded
from kindscarried.integers import check_count
from kindscarried.looker import looked


def first_state(code):
    """The state from which a run of code sets out."""
    return ((None,) * code[0], (), 0, 0)


def step(code, state):
    """("on", the next state, the integer said or None), ("halt", integer) or ("stuck", what is met)."""
    machine = CodeRun(code, state)
    told = machine.do_step()
    if told is None:
        return ("on", machine.state(), machine.said)
    return ("halt", told[1]) if told[0] == "done" else told


def run(code, beats):
    """The outcome of code that the looker lets by."""
    place = looked(code)
    if place is not None:
        raise IllKinded(place)
    return run_any(code, beats)


def run_any(code, beats):
    """The outcome of any code; it may be ("stuck", what is met, letters)."""
    check_count(beats)
    return CodeRun(code, first_state(code)).outcome(beats)
