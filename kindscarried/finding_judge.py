"""Whether any value is a finding of a source program."""

from kindscarried.errors import Twice, Unknown
from kindscarried.finding_checks import check_words
from kindscarried.found_kinds import are_found_kinds, is_found_kind, put_in_found, told_kinds
from kindscarried.options import data_table, option_table
from kindscarried.scope import Scopes, variables_at
from kindscarried.source import check_source, placed_terms

INT = ("int",)
NOTHING = ("row", ())
MOST_OWN = 8


def is_finding(program, value):
    """Whether every rule holds of the program with the kinds of this value."""
    check_source(program)
    scopes = Scopes(program[1])
    try:
        check_words(program, scopes.binders)
    except (Twice, Unknown):
        return False
    if type(value) is not tuple or len(value) != 3:
        return False
    judge = Judge(program, scopes.binders)
    if not (judge.takes_funs(value[1]) and judge.takes_kinds(value[0]) and judge.takes_uses(value[2])):
        return False
    # A name's rule may be asked only once the rule of what binds it holds: binders come first.
    for place in judge.places:
        if not judge.holds(place):
            return False
    return judge.kinds[()] == INT


def _rows_by_place(rows, places, many):
    """The dict from place to row, None unless the rows are tuples of just these places."""
    if type(rows) is not tuple or len(rows) != len(places):
        return None
    for row, place in zip(rows, places):
        if type(row) is not tuple or len(row) != many or not _is_place(row[0], place):
            return None
    return {row[0]: row for row in rows}


def _is_place(value, place):
    """Whether the value is just this place, its indexes being integers, not truths."""
    return type(value) is tuple and value == place and all([type(index) is int for index in value])


class Judge:
    """A program with the kinds that a value tells of it.

    kinds leads from each place to its kind, funs from that of each fun and fn to
    its row, uses from that of each name of a fun to the kinds put in, counts
    from that of each fun to how many variables it has.
    """

    def __init__(self, program, binders):
        self.terms = {place: term for place, term in placed_terms(program[1])}
        self.places = list(self.terms)
        self.binders = binders
        self.by_word = data_table(program[0])
        self.by_option = option_table(program[0])
        self.kinds = {}
        self.funs = {}
        self.uses = {}
        self.counts = {}

    def takes_funs(self, rows):
        places = [place for place in self.places if self.terms[place][0] in ("fun", "fn")]
        by_place = _rows_by_place(rows, places, 4)
        if by_place is None:
            return False
        for place in places:
            most = MOST_OWN if self.terms[place][0] == "fun" else 0
            many = by_place[place][1]
            if type(many) is not int or not 0 <= many <= most:
                return False
            if most > 0:
                self.counts[place] = many
        self.funs = by_place
        return all([self.is_fun_row(row) for row in rows])

    def is_fun_row(self, row):
        place, many, kinds, kind = row
        term = self.terms[place]
        free = variables_at(place, self.counts) + many
        words = term[2] if term[0] == "fun" else term[1]
        return are_found_kinds(kinds, len(words), free, self.by_word) and is_found_kind(kind, free, self.by_word)

    def takes_kinds(self, rows):
        by_place = _rows_by_place(rows, self.places, 2)
        if by_place is None:
            return False
        self.kinds = {place: by_place[place][1] for place in self.places}
        return all([self.is_kind_at(place, self.kinds[place]) for place in self.places])

    def is_kind_at(self, place, kind):
        return is_found_kind(kind, variables_at(place, self.counts), self.by_word)

    def takes_uses(self, rows):
        places = [place for place in self.places if self.binder_sort(place) == "fun"]
        by_place = _rows_by_place(rows, places, 2)
        if by_place is None:
            return False
        self.uses = {place: by_place[place][1] for place in places}
        return all([self.is_use(place) for place in places])

    def binder_sort(self, place):
        return self.binders[place][0] if place in self.binders else ""

    def is_use(self, place):
        many = self.counts[self.binders[place][1]]
        return are_found_kinds(self.uses[place], many, variables_at(place, self.counts), self.by_word)

    def holds(self, place):
        """Whether the rule of the term at a place holds."""
        term = self.terms[place]
        rule = RULES[term[0]]
        return rule(self, term, place, self.kinds[place])

    def kind_in(self, place, index):
        return self.kinds[place + (index,)]

    def kinds_in(self, place, start, many):
        return tuple([self.kinds[place + (start + index,)] for index in range(many)])

    def function(self, place):
        row = self.funs[place]
        return ("fun", row[2], row[3])

    def word_kind(self, place):
        """The kind that the binder of a name tells, for kinds put in at this place."""
        sort, binder, case, index = self.binders[place]
        if sort == "let":
            return self.kind_in(binder, 0)
        if sort == "split":
            return self.kind_in(binder, 0)[1][index]
        if sort == "word":
            return self.funs[binder][2][index]
        if sort == "case":
            data = self.by_word[self.kind_in(binder, 0)[1]]
            return told_kinds(data, case, self.kind_in(binder, 0)[2])[index]
        if sort == "own":
            return self.function(binder)
        outer = [("free", number) for number in range(variables_at(binder, self.counts))]
        return put_in_found(self.function(binder), outer + list(self.uses[place]))


def _int_holds(judge, term, place, kind):
    return kind == INT


def _name_holds(judge, term, place, kind):
    return kind == judge.word_kind(place)


def _sum_holds(judge, term, place, kind):
    return judge.kind_in(place, 0) == INT and judge.kind_in(place, 1) == INT and kind == INT


def _if_holds(judge, term, place, kind):
    return judge.kind_in(place, 0) == INT and judge.kind_in(place, 1) == kind and judge.kind_in(place, 2) == kind


def _let_holds(judge, term, place, kind):
    return judge.kind_in(place, 1) == kind


def _split_holds(judge, term, place, kind):
    row = judge.kind_in(place, 0)
    return row[0] == "row" and len(row[1]) == len(term[1]) and judge.kind_in(place, 1) == kind


def _fun_holds(judge, term, place, kind):
    return judge.kind_in(place, 0) == judge.funs[place][3] and judge.kind_in(place, 1) == kind


def _fn_holds(judge, term, place, kind):
    return judge.kind_in(place, 0) == judge.funs[place][3] and kind == judge.function(place)


def _call_holds(judge, term, place, kind):
    return judge.kind_in(place, 0) == ("fun", judge.kinds_in(place, 1, len(term[2])), kind)


def _row_holds(judge, term, place, kind):
    return kind == ("row", judge.kinds_in(place, 0, len(term[1])))


def _make_holds(judge, term, place, kind):
    data, index = judge.by_option[term[1]]
    if kind[0] != "data" or kind[1] != data[0]:
        return False
    return told_kinds(data, index, kind[2]) == judge.kinds_in(place, 0, len(term[2]))


def _match_holds(judge, term, place, kind):
    data, _ = judge.by_option[term[2][0][0]]
    asked = judge.kind_in(place, 0)
    if asked[0] != "data" or asked[1] != data[0]:
        return False
    return all([inner == kind for inner in judge.kinds_in(place, 1, len(term[2]))])


def _cell_holds(judge, term, place, kind):
    return kind == ("cell", judge.kind_in(place, 0))


def _get_holds(judge, term, place, kind):
    return judge.kind_in(place, 0) == ("cell", kind)


def _set_holds(judge, term, place, kind):
    return judge.kind_in(place, 0) == ("cell", judge.kind_in(place, 1)) and kind == NOTHING


def _say_holds(judge, term, place, kind):
    return judge.kind_in(place, 0) == INT and kind == NOTHING


def _then_holds(judge, term, place, kind):
    return judge.kind_in(place, 0) == NOTHING and judge.kind_in(place, 1) == kind


RULES = {
    "int": _int_holds, "name": _name_holds, "sum": _sum_holds, "if": _if_holds, "let": _let_holds,
    "split": _split_holds, "fun": _fun_holds, "fn": _fn_holds, "call": _call_holds,
    "row": _row_holds, "make": _make_holds, "match": _match_holds, "cell": _cell_holds,
    "get": _get_holds, "set": _set_holds, "say": _say_holds, "then": _then_holds,
}
