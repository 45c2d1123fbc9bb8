"""Source programs as texts."""

from kindscarried.errors import InvalidText, TooMany
from kindscarried.pieces import pieces_of
from kindscarried.source import MOST_DEPTH, MOST_KIND_DEPTH, MOST_PARTS
from kindscarried.source import check_source, is_written_deeper, term_measures
from kindscarried.source_parser import parsed
from kindscarried.source_writer import written_pieces


def source_told(text):
    """The source program that a text tells."""
    if type(text) is not str:
        raise InvalidText(0)
    program = parsed(pieces_of(text))
    if _has_deep_kind(program[0]):
        raise TooMany(MOST_KIND_DEPTH)
    depth, parts = term_measures(program[1])
    if depth > MOST_DEPTH:
        raise TooMany(MOST_DEPTH)
    if parts > MOST_PARTS:
        raise TooMany(MOST_PARTS)
    return program


def _has_deep_kind(datas):
    kinds = [kind for data in datas for choice in data[2] for kind in choice[1]]
    return any([is_written_deeper(kind, MOST_KIND_DEPTH) for kind in kinds])


def source_text(program):
    """The pieces of a source program with one space between two."""
    check_source(program)
    return " ".join(written_pieces(program))
