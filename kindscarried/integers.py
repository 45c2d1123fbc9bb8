"""Integers of programs, and what is done with two of them."""

from kindscarried.errors import InvalidCount

LEAST = -2147483648
GREATEST = 2147483647
SUM_WORDS = ("add", "take", "times", "less", "same")


def is_integer(value):
    return type(value) is int


def is_index(value):
    return type(value) is int and value >= 0


def is_program_integer(value):
    return type(value) is int and LEAST <= value <= GREATEST


def wrapped(number):
    """The integer of programs that differs by a multiple of 2 ** 32."""
    return ((number - LEAST) & 4294967295) + LEAST


def summed(word, first, second):
    """What a sum of this word gives of two integers of programs."""
    if word == "add":
        return wrapped(first + second)
    if word == "take":
        return wrapped(first - second)
    if word == "times":
        return wrapped(first * second)
    if word == "less":
        return 1 if first < second else 0
    return 1 if first == second else 0


def check_count(value):
    """InvalidCount unless the value is an integer from 0 on."""
    if not is_index(value):
        raise InvalidCount("an integer from 0 on is wanted")
