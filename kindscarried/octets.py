"""Code as octets."""

from kindscarried.errors import InvalidOctets
from kindscarried.machine import run
from kindscarried.octet_reader import Reader
from kindscarried.octet_writer import Writer


def octets_of(code):
    """The octets of any code with the shape of code, let by or not."""
    writer = Writer()
    writer.write_code(code)
    return tuple(writer.octets)


def code_told(octets):
    """The code that octets tell, let by or not."""
    if type(octets) is not tuple:
        raise InvalidOctets(0)
    return Reader(octets).read_code()


def run_octets(octets, beats):
    """The outcome of the code that octets tell."""
    return run(code_told(octets), beats)
