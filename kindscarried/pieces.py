"""The pieces of source texts."""

from kindscarried.source import DIGITS, GREAT_LETTERS, KEYWORDS, SMALL_LETTERS, is_option, is_word

# A longer sign stands ahead of the one that it begins with.
SIGNS = ("->", ":=", "(", ")", "{", "}", ",", ";", "|", "+", "-", "*", "<", "=")
GREATEST_NUMBER = 2147483648


def pieces_of(text):
    """The list of (sort, piece, index); a sign or one of the thirteen words is its own sort.

    The last row is of the sort "end", or "bad" where a character begins no piece.
    """
    rows = []
    index = 0
    while index < len(text):
        if text[index] == " ":
            index = index + 1
            continue
        piece = _piece_at(text, index)
        sort = _sort_of(piece)
        rows.append((sort, piece, index))
        if sort == "bad":
            return rows
        index = index + len(piece)
    rows.append(("end", "", len(text)))
    return rows


def _piece_at(text, index):
    """The longest row of letters and digits, or sign, that stands here, or one character."""
    behind = index
    while behind < len(text) and _is_letter_or_digit(text[behind]):
        behind = behind + 1
    if behind > index:
        return text[index:behind]
    for sign in SIGNS:
        if text.startswith(sign, index):
            return sign
    return text[index]


def _is_letter_or_digit(sign):
    return sign in SMALL_LETTERS or sign in GREAT_LETTERS or sign in DIGITS


def _sort_of(piece):
    if piece in SIGNS or piece in KEYWORDS:
        return piece
    if is_word(piece):
        return "word"
    if is_option(piece):
        return "option"
    if _is_number(piece):
        return "number"
    return "bad"


def _is_number(piece):
    if not all([sign in DIGITS for sign in piece]) or len(piece) > len(str(GREATEST_NUMBER)):
        return False
    if piece[0] == "0" and piece != "0":
        return False
    return int(piece) <= GREATEST_NUMBER
