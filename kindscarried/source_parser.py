"""How the pieces of a text become a source program, whatever its bounds.

What is still wanted of the text lies on a stack of goals, so that no nest of
brackets, however deep, is gone through by recursion. Each goal looks at the next
piece alone and takes none that no program goes on with: so the first piece that
no goal takes is the one that the text goes wrong at.
"""

from kindscarried.errors import InvalidText
from kindscarried.integers import GREATEST
from kindscarried.source import MOST_DATAS

# Of each list: the goal of a member, how many at least and at most,
# the sign between two, the sign behind the last one.
LISTS = {
    "words": ("word", 1, 6, ",", ")"),
    "split words": ("word", 2, 6, ",", ")"),
    "parameters": ("word", 1, 4, ",", ")"),
    "kinds": ("kind", 1, 6, ",", ")"),
    "row kinds": ("kind", 2, 6, ",", ")"),
    "terms": ("term", 1, 6, ",", ")"),
    "row terms": ("term", 2, 6, ",", ")"),
    "choices": ("choice", 1, 6, "|", ";"),
    "cases": ("case", 1, 6, "|", "}"),
}


class Parser:
    """The pieces, which one is next, the goals still to reach, and a stack of what was told so far."""

    def __init__(self, pieces):
        self.pieces = pieces
        self.at = 0
        self.goals = []
        self.stack = []

    def ahead(self):
        """The sort of the next piece."""
        return self.pieces[self.at][0]

    def take(self):
        """The next piece, which is gone by."""
        piece = self.pieces[self.at][1]
        self.at = self.at + 1
        return piece

    def refuse(self):
        raise InvalidText(self.pieces[self.at][2])

    def must_take(self, sort):
        if self.ahead() != sort:
            self.refuse()
        return self.take()

    def want(self, *goals):
        """Puts goals on the stack, the first one to be reached first."""
        for goal in reversed(goals):
            self.goals.append(goal)

    def put(self, value):
        self.stack.append(value)


def _piece(parser, goal):
    parser.must_take(goal[1])


def _word(parser, goal):
    parser.put(parser.must_take("word"))


def _option(parser, goal):
    parser.put(parser.must_take("option"))


def _build(parser, goal):
    """("build", word, many): the last values become a tuple that begins with the word."""
    start = len(parser.stack) - goal[2]
    members = tuple(parser.stack[start:])
    del parser.stack[start:]
    parser.put((goal[1],) + members)


def _wrap(parser, goal):
    """("wrap", many): the last values become a tuple."""
    start = len(parser.stack) - goal[1]
    members = tuple(parser.stack[start:])
    del parser.stack[start:]
    parser.put(members)


def _join(parser, goal):
    """("join", word): the last two values become a sum of this word."""
    second = parser.stack.pop()
    first = parser.stack.pop()
    parser.put(("sum", goal[1], first, second))


def _list(parser, goal):
    parser.put([])
    parser.want((LISTS[goal[1]][0],), ("more", goal[1]))


def _maybe_list(parser, goal):
    """A list that may have no members, its bracket taken already."""
    if parser.ahead() == ")":
        parser.take()
        parser.put(())
    else:
        parser.want(("list", goal[1]))


def _optional_list(parser, goal):
    """A list with its bracket, or nothing at all."""
    if parser.ahead() == "(":
        parser.take()
        parser.want(("list", goal[1]))
    else:
        parser.put(())


def _more(parser, goal):
    """Behind a member: one more, or the end of the list."""
    member, least, most, between, closing = LISTS[goal[1]]
    value = parser.stack.pop()
    members = parser.stack[-1]
    members.append(value)
    if parser.ahead() == between and len(members) < most:
        parser.take()
        parser.want((member,), goal)
    elif len(members) >= least:
        parser.must_take(closing)
        parser.stack[-1] = tuple(members)
    else:
        parser.refuse()


def _program(parser, goal):
    parser.put([])
    parser.want(("datas",), ("term",), ("end",), ("wrap", 2))


def _datas(parser, goal):
    datas = parser.stack[-1]
    if parser.ahead() == "data" and len(datas) < MOST_DATAS:
        parser.take()
        parser.want(("word",), ("optional list", "parameters"), ("piece", "="), ("list", "choices"),
                    ("wrap", 3), ("keep data",), ("datas",))
    else:
        parser.stack[-1] = tuple(datas)


def _keep_data(parser, goal):
    data = parser.stack.pop()
    parser.stack[-1].append(data)


def _end(parser, goal):
    if parser.ahead() != "end":
        parser.refuse()


def _choice(parser, goal):
    parser.want(("option",), ("optional list", "kinds"), ("wrap", 2))


def _case(parser, goal):
    parser.want(("option",), ("optional list", "words"), ("piece", "->"), ("term",), ("wrap", 3))


def _kind(parser, goal):
    sort = parser.ahead()
    if sort == "word":
        parser.want(("word",), ("optional list", "kinds"), ("build", "word", 2))
        return
    if sort not in ("int", "fn", "cell", "("):
        parser.refuse()
    parser.take()
    if sort == "int":
        parser.put(("int",))
    elif sort == "fn":
        parser.want(("piece", "("), ("maybe list", "kinds"), ("kind",), ("build", "fun", 2))
    elif sort == "cell":
        parser.want(("kind",), ("build", "cell", 1))
    else:
        parser.want(("maybe list", "row kinds"), ("build", "row", 1))


def _term(parser, goal):
    sort = parser.ahead()
    if sort not in ("let", "fun", "fn", "if"):
        parser.want(("pair",), ("sequel",))
        return
    parser.take()
    if sort == "let":
        parser.want(("let",))
    elif sort == "fun":
        parser.want(("word",), ("piece", "("), ("maybe list", "words"), ("piece", "="), ("term",),
                    ("piece", "in"), ("term",), ("build", "fun", 4))
    elif sort == "fn":
        parser.want(("piece", "("), ("maybe list", "words"), ("term",), ("build", "fn", 2))
    else:
        parser.want(("term",), ("piece", "then"), ("term",), ("piece", "else"), ("term",), ("build", "if", 3))


def _let(parser, goal):
    """What stands behind the piece let: a word, or the words of a split."""
    word = "let"
    names = ("word",)
    if parser.ahead() == "(":
        parser.take()
        word = "split"
        names = ("maybe list", "split words")
    parser.want(names, ("piece", "="), ("term",), ("piece", "in"), ("term",), ("build", word, 3))


def _sequel(parser, goal):
    if parser.ahead() == ";":
        parser.take()
        parser.want(("term",), ("build", "then", 2))


def _pair(parser, goal):
    parser.want(("sum",), ("pair sign",))


def _pair_sign(parser, goal):
    sort = parser.ahead()
    if sort not in ("<", "=", ":="):
        return
    parser.take()
    if sort == ":=":
        parser.want(("sum",), ("build", "set", 2))
    else:
        parser.want(("sum",), ("join", "less" if sort == "<" else "same"))


def _sum(parser, goal):
    parser.want(("product",), ("sum sign",))


def _sum_sign(parser, goal):
    sort = parser.ahead()
    if sort in ("+", "-"):
        parser.take()
        parser.want(("product",), ("join", "add" if sort == "+" else "take"), goal)


def _product(parser, goal):
    parser.want(("prefix",), ("product sign",))


def _product_sign(parser, goal):
    if parser.ahead() == "*":
        parser.take()
        parser.want(("prefix",), ("join", "times"), goal)


def _prefix(parser, goal):
    sort = parser.ahead()
    if sort in ("cell", "get", "say"):
        parser.take()
        parser.want(goal, ("build", sort, 1))
    else:
        parser.want(("atom",), ("call",))


def _call(parser, goal):
    if parser.ahead() == "(":
        parser.take()
        parser.want(("maybe list", "terms"), ("build", "call", 2), goal)


def _atom(parser, goal):
    sort = parser.ahead()
    if sort == "word":
        parser.want(("word",), ("build", "name", 1))
    elif sort == "option":
        parser.want(("option",), ("optional list", "terms"), ("build", "make", 2))
    elif sort == "number":
        _take_number(parser, 0, GREATEST, 1)
    elif sort == "-":
        parser.take()
        _take_number(parser, 1, GREATEST + 1, -1)
    elif sort == "(":
        parser.take()
        parser.want(("bracket",))
    elif sort == "match":
        parser.take()
        parser.want(("term",), ("piece", "{"), ("list", "cases"), ("build", "match", 2))
    else:
        parser.refuse()


def _take_number(parser, least, greatest, sign):
    if parser.ahead() != "number" or not least <= int(parser.pieces[parser.at][1]) <= greatest:
        parser.refuse()
    parser.put(("int", sign * int(parser.take())))


def _bracket(parser, goal):
    """What stands behind the bracket that an atom begins with."""
    if parser.ahead() == ")":
        parser.take()
        parser.put(("row", ()))
    else:
        parser.want(("term",), ("row or term",))


def _row_or_term(parser, goal):
    """Behind the first term in brackets: the closing one, or the rest of a row."""
    if parser.ahead() == ",":
        first = parser.stack.pop()
        parser.put([])
        parser.put(first)
        parser.want(("more", "row terms"), ("build", "row", 1))
    else:
        parser.must_take(")")


GOALS = {
    "piece": _piece, "word": _word, "option": _option, "build": _build, "wrap": _wrap, "join": _join,
    "list": _list, "maybe list": _maybe_list, "optional list": _optional_list, "more": _more,
    "program": _program, "datas": _datas, "keep data": _keep_data, "end": _end,
    "choice": _choice, "case": _case, "kind": _kind, "term": _term, "let": _let, "sequel": _sequel,
    "pair": _pair, "pair sign": _pair_sign, "sum": _sum, "sum sign": _sum_sign,
    "product": _product, "product sign": _product_sign, "prefix": _prefix, "call": _call,
    "atom": _atom, "bracket": _bracket, "row or term": _row_or_term,
}


def parsed(pieces):
    """The program that these pieces tell, whatever its depth and number of parts."""
    parser = Parser(pieces)
    parser.want(("program",))
    while parser.goals:
        goal = parser.goals.pop()
        reach = GOALS[goal[0]]
        reach(parser, goal)
    return parser.stack[0]
