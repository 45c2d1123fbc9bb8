"""Papers: what is known ahead of each row and end of code, so that each is checked by the line ahead of it alone."""

from kindscarried.errors import IllKinded, InvalidPaper
from kindscarried.integers import check_count
from kindscarried.looker import heads_fault, looked
from kindscarried.paper_lines import first_wrong, full_lines, least_lines
from kindscarried.paper_run import PaperRun, left_by


def check_paper(code, paper):
    """InvalidPaper unless any value is a right paper of code whose heads are right."""
    _check_heads(code)
    index = first_wrong(code, paper)
    if index is not None:
        raise InvalidPaper(index)


def is_paper(code, value):
    """Whether any value is a right paper of code whose heads are right."""
    _check_heads(code)
    return first_wrong(code, value) is None


def _check_heads(code):
    place = heads_fault(code)
    if place is not None:
        raise IllKinded(place)


def _check_code(code):
    place = looked(code)
    if place is not None:
        raise IllKinded(place)


def paper_of(code):
    """The right paper that leaves out nothing."""
    _check_code(code)
    return full_lines(code)


def least_paper(code):
    """The right paper that leaves out most."""
    _check_code(code)
    return least_lines(code, full_lines(code))


def met(code, paper, other_paper):
    """Line by line the registers that both papers have."""
    _check_papers(code, (paper, other_paper))
    told = []
    for (free, regs), (_, others) in zip(paper, other_paper):
        known = {number: True for number, _ in others}
        told.append((free, tuple([reg for reg in regs if reg[0] in known])))
    return tuple(told)


def joined(code, paper, other_paper):
    """Line by line the registers that one of both papers has."""
    _check_papers(code, (paper, other_paper))
    told = []
    for (free, regs), (_, others) in zip(paper, other_paper):
        known = {number: kind for number, kind in regs + others}
        told.append((free, tuple([(number, known[number]) for number in sorted(known)])))
    return tuple(told)


def _check_papers(code, papers):
    _check_code(code)
    for paper in papers:
        check_paper(code, paper)


def forgotten(code, paper, state):
    """The state without what the line there leaves out, and without the things to which nothing leads then."""
    _check_papers(code, (paper,))
    return left_by(code, paper, state)


def run_by_paper(code, paper, beats):
    """(outcome, the greatest number of things left) of a run that forgets at each step what the paper leaves out."""
    _check_papers(code, (paper,))
    check_count(beats)
    machine = PaperRun(code, paper)
    outcome = machine.outcome(beats)
    return (outcome, machine.most_at_once())
