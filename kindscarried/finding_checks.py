"""What is wrong with the words of a source program, kinds aside."""

from kindscarried.errors import Twice, Unknown
from kindscarried.options import option_table
from kindscarried.source import inner_written, placed_terms


def check_words(program, binders):
    """Twice or Unknown of the first word that is wrong.

    binders is what a Scopes of the program's term tells.
    """
    _check_data_words(program[0])
    for index in range(len(program[0])):
        _check_written_kinds(program[0], index)
    options = option_table(program[0])
    for place, term in placed_terms(program[1]):
        _check_own_words(term)
        if term[0] == "name" and binders[place] is None:
            raise Unknown(term[1])
        if term[0] == "make":
            _check_option(options, term[1], len(term[2]))
        if term[0] == "match":
            _check_cases(options, term[2])


def _check_unlike(words):
    for index, word in enumerate(words):
        if word in words[:index]:
            raise Twice(word)


def _check_data_words(datas):
    seen = []
    options = []
    for word, parameters, choices in datas:
        seen.append(word)
        _check_unlike(seen)
        _check_unlike(parameters)
        for option, _ in choices:
            options.append(option)
            _check_unlike(options)


def _check_written_kinds(datas, index):
    """Unknown of the first word in the kinds of a data that tells no kind there."""
    ahead = {data[0]: len(data[1]) for data in datas[:index]}
    for _, kinds in datas[index][2]:
        for kind in kinds:
            _check_written_kind(ahead, datas[index], kind)


def _check_written_kind(ahead, data, kind):
    if kind[0] == "word" and not _is_known(ahead, data, kind[1], kind[2]):
        raise Unknown(kind[1])
    for inner in inner_written(kind):
        _check_written_kind(ahead, data, inner)


def _is_known(ahead, data, word, kinds):
    own_word, parameters, _ = data
    if word in parameters:
        return not kinds
    if word == own_word and kinds == tuple([("word", name, ()) for name in parameters]):
        return True
    return word in ahead and ahead[word] == len(kinds)


def _check_own_words(term):
    if term[0] in ("split", "fn"):
        _check_unlike(term[1])
    elif term[0] == "fun":
        _check_unlike(term[2])
    elif term[0] == "match":
        for case in term[2]:
            _check_unlike(case[1])


def _check_option(options, option, many):
    if option not in options:
        raise Unknown(option)
    data, index = options[option]
    if len(data[2][index][1]) != many:
        raise Unknown(option)


def _check_cases(options, cases):
    for option, words, _ in cases:
        _check_option(options, option, len(words))
    data, _ = options[cases[0][0]]
    if [case[0] for case in cases] != [choice[0] for choice in data[2]]:
        raise Unknown(cases[0][0])
