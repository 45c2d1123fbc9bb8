"""The rules of the lookers from in turns on, one behind another, plainly: what they tell is compared with the package's."""

from kindscarried.kinds import CLOSED_WORDS, STORED_WORDS, fits, is_kind, opened, opened_first, unfolded

INT = ("int",)
SUMS = ("add", "take", "times", "less", "same")


class Fault(Exception):
    pass


def need(truth, place):
    if not truth:
        raise Fault(place)


def fault_of(look, value):
    try:
        look(value)
    except Fault as fault:
        return fault.args[0]
    return None


def index(value, many=None):
    return type(value) is int and value >= 0 and (many is None or value < many)


def turns_fault(program):
    """Of what is_turns lets by."""
    return fault_of(look_at_turns, program)


def look_at_turns(program):
    made = {0: ((), 0)}
    for j, (n, ks, body) in enumerate(program):
        names, free = made[j]
        look_at_turns_body(program, body, (j, 2), list(names), free, made)


def look_at_turns_body(program, body, place, names, free, made):
    for r, row in enumerate(body[0]):
        here = place + (0, r)

        def kind_of(thing):
            if thing[0] == "int":
                return INT
            need(thing[1] < len(names), here)
            return names[thing[1]]

        def written(kind):
            need(is_kind(free, kind, CLOSED_WORDS), here)
            return kind

        word = row[0]
        new = None
        if word == "sum":
            need(kind_of(row[2]) == INT and kind_of(row[3]) == INT, here)
            new = INT
        elif word == "fun":
            n, ks, _ = program[row[1]]
            new = written(("not", n, ks))
            own = tuple(("free", free + i) for i in range(n))
            made[row[1]] = (tuple(names) + (new,) + opened(new, own), free + n)
        elif word == "row":
            new = ("row", tuple(kind_of(v) for v in row[1]))
        elif word == "part":
            kind = kind_of(row[1])
            need(kind[0] == "row" and row[2] < len(kind[1]), here)
            new = kind[1][row[2]]
        elif word == "tag":
            new = written(row[2])
            need(new[0] == "one" and row[1] < len(new[1]) and kind_of(row[3]) == new[1][row[1]], here)
        elif word == "cell":
            new = ("cell", kind_of(row[1]))
        elif word == "get":
            kind = kind_of(row[1])
            need(kind[0] == "cell", here)
            new = kind[1]
        elif word == "set":
            need(kind_of(row[1]) == ("cell", kind_of(row[2])), here)
        elif word == "fold":
            new = written(row[1])
            need(new[0] == "rec" and kind_of(row[2]) == unfolded(new), here)
        elif word == "unfold":
            kind = kind_of(row[1])
            need(kind[0] == "rec", here)
            new = unfolded(kind)
        elif word == "hide":
            new = written(row[3])
            need(new[0] == "some" and kind_of(row[2]) == opened(new, (written(row[1]),)), here)
        elif word == "open":
            kind = kind_of(row[1])
            need(kind[0] == "some", here)
            new = opened(kind, (("free", free),))
            free += 1
        else:
            need(kind_of(row[1]) == INT, here)
        if word not in ("set", "say"):
            names.append(new)
    look_at_turns_end(program, body[1], place + (1,), names, free, made)


def look_at_turns_end(program, end, place, names, free, made):
    def kind_of(thing):
        if thing[0] == "int":
            return INT
        need(thing[1] < len(names), place)
        return names[thing[1]]

    kind = kind_of(end[1])
    if end[0] in ("when", "halt"):
        need(kind == INT, place)
        if end[0] == "when":
            look_at_turns_body(program, end[2], place + (2,), list(names), free, made)
            look_at_turns_body(program, end[3], place + (3,), list(names), free, made)
    elif end[0] == "match":
        need(kind[0] == "one" and len(kind[1]) == len(end[2]), place)
        for i, body in enumerate(end[2]):
            look_at_turns_body(program, body, place + (2, i), list(names) + [kind[1][i]], free, made)
    else:
        need(kind[0] == "not" and kind[1] == len(end[2]), place)
        need(all(is_kind(free, given, CLOSED_WORDS) for given in end[2]), place)
        need(tuple(kind_of(v) for v in end[3]) == opened(kind, end[2]), place)


def closed_fault(value):
    return fault_of(Blocks(CLOSED_WORDS).look, value)


def stored_fault(value):
    return fault_of(Blocks(STORED_WORDS).look, value)


class Blocks:
    def __init__(self, words):
        self.words = words
        self.stored = "room" in words
        self.nothing = ("room", ()) if self.stored else ("row", ())

    def look(self, value):
        need(type(value) is tuple and len(value) == 2 and type(value[0]) is tuple, ())
        for b, block in enumerate(value[0]):
            need(type(block) is tuple and len(block) == 3, (0, b))
            need(index(block[0], 10001), (0, b, 0))
            need(type(block[1]) is tuple, (0, b, 1))
            for i, kind in enumerate(block[1]):
                need(is_kind(0, ("not", block[0], (kind,)), self.words), (0, b, 1, i))
        self.blocks = value[0]
        for b, (n, ks, body) in enumerate(value[0]):
            own = tuple(("free", i) for i in range(n))
            self.body(body, (0, b, 2), list(opened(("not", n, ks), own)), n)
        self.body(value[1], (1,), [], 0)

    def body(self, body, place, names, free):
        need(type(body) is tuple and len(body) == 2 and type(body[0]) is tuple, place)
        for r, row in enumerate(body[0]):
            kind, free = self.row(row, place + (0, r), names, free)
            names.append(kind)
        self.end(body[1], place + (1,), names, free)

    def form(self, node, words, place):
        need(type(node) is tuple and node and type(node[0]) is str and node[0] in words and len(node) == words[node[0]], place)
        return node[0]

    def written(self, kind, free, place):
        need(is_kind(free, kind, self.words), place)
        return kind

    def thing(self, thing, place, names, free):
        words = {"int": 2, "name": 2, "label": 2, "at": 3, "hide": 4, "fold": 3}
        if not self.stored:
            words.update({"row": 2, "tag": 4})
        word = self.form(thing, words, place)
        if word == "int":
            need(type(thing[1]) is int and -2 ** 31 <= thing[1] < 2 ** 31, place)
            return INT
        if word == "name":
            need(index(thing[1], len(names)), place)
            return names[thing[1]]
        if word == "label":
            need(index(thing[1], len(self.blocks)), place)
            return ("not",) + self.blocks[thing[1]][:2]
        if word == "at":
            kind = self.thing(thing[1], place + (1,), names, free)
            need(kind[0] == "not" and type(thing[2]) is tuple and len(thing[2]) <= kind[1], place)
            return opened_first(kind, tuple(self.written(given, free, place) for given in thing[2]))
        if word == "row":
            if type(thing[1]) is not tuple:
                raise Fault(place)
            return ("row", tuple(self.thing(v, place + (1, i), names, free) for i, v in enumerate(thing[1])))
        if word == "tag":
            kind = self.thing(thing[3], place + (3,), names, free)
            return self.tagged(thing[1], thing[2], kind, place, free)
        kind = self.thing(thing[2], place + (2,), names, free)
        if word == "fold":
            rec = self.written(thing[1], free, place)
            need(rec[0] == "rec" and fits(kind, unfolded(rec)), place)
            return rec
        some = self.written(thing[3], free, place)
        need(some[0] == "some" and fits(kind, opened(some, (self.written(thing[1], free, place),))), place)
        return some

    def tagged(self, i, one, kind, place, free):
        self.written(one, free, place)
        need(one[0] == "one" and index(i, len(one[1])) and fits(kind, one[1][i]), place)
        return one

    def row(self, row, place, names, free):
        words = {"thing": 2, "sum": 4, "part": 3, "cell": 2, "get": 2, "set": 3, "unfold": 2, "open": 2, "say": 2}
        if self.stored:
            words.update({"room": 2, "put": 4, "tagged": 4})
        word = self.form(row, words, place)
        ats = {"sum": (2, 3), "set": (1, 2), "room": (), "put": (1, 3), "tagged": (3,)}.get(word, (1,))
        kinds = [self.thing(row[at], place + (at,), names, free) for at in ats]
        if word == "room":
            need(type(row[1]) is tuple, place)
            return ("room", tuple((self.written(kind, free, place), False) for kind in row[1])), free
        first = kinds[0]
        if word == "thing":
            return first, free
        if word == "sum":
            need(type(row[1]) is str and row[1] in SUMS and kinds == [INT, INT], place)
            return INT, free
        if word == "part":
            if self.stored:
                need(first[0] == "room" and index(row[2], len(first[1])) and first[1][row[2]][1], place)
                return first[1][row[2]][0], free
            need(first[0] == "row" and index(row[2], len(first[1])), place)
            return first[1][row[2]], free
        if word == "put":
            need(first[0] == "room" and index(row[2], len(first[1])) and fits(kinds[1], first[1][row[2]][0]), place)
            places = list(first[1])
            places[row[2]] = (places[row[2]][0], True)
            return ("room", tuple(places)), free
        if word == "tagged":
            return self.tagged(row[1], row[2], first, place, free), free
        if word == "cell":
            return ("cell", first), free
        if word == "get":
            need(first[0] == "cell", place)
            return first[1], free
        if word == "set":
            need(first[0] == "cell" and fits(kinds[1], first[1]), place)
            return self.nothing, free
        if word == "unfold":
            need(first[0] == "rec", place)
            return unfolded(first), free
        if word == "open":
            need(first[0] == "some", place)
            return opened(first, (("free", free),)), free + 1
        need(first == INT, place)
        return self.nothing, free

    def end(self, end, place, names, free):
        word = self.form(end, {"jump": 3, "when": 4, "match": 3, "halt": 2}, place)
        kind = self.thing(end[1], place + (1,), names, free)
        if word == "jump":
            vs = end[2] if type(end[2]) is tuple else ()
            kinds = [self.thing(v, place + (2, i), names, free) for i, v in enumerate(vs)]
            need(type(end[2]) is tuple and kind[:2] == ("not", 0) and len(kinds) == len(kind[2]), place)
            need(all(fits(*pair) for pair in zip(kinds, opened(kind, ()))), place)
        elif word == "match":
            need(kind[0] == "one" and type(end[2]) is tuple and len(end[2]) == len(kind[1]), place)
            for i, body in enumerate(end[2]):
                self.body(body, place + (2, i), list(names) + [kind[1][i]], free)
        else:
            need(kind == INT, place)
            if word == "when":
                self.body(end[2], place + (2,), list(names), free)
                self.body(end[3], place + (3,), list(names), free)
