"""Which rows of pieces begin a source text, told from the grammar alone (by Earley's way)."""


def grammar():
    rules = {}

    def rule(name, *bodies):
        rules[name] = [tuple(body.split()) for body in bodies]

    def listed(name, member, most, between):
        """name1 .. name<most>: so many members at most."""
        rule(name + "1", member)
        for k in range(2, most + 1):
            rule(name + str(k), member, "%s %s %s%d" % (member, between, name, k - 1))

    rule("P0", "TERM")
    for k in range(1, 9):
        rule("P%d" % k, "TERM", "DATA P%d" % (k - 1))
    rule("DATA", "data word = OPTS6 ;", "data word ( WORDS4 ) = OPTS6 ;")
    listed("OPTS", "OPT", 6, "|")
    rule("OPT", "option", "option ( KINDS6 )")
    listed("KINDS", "KIND", 6, ",")
    listed("WORDS", "word", 6, ",")
    listed("TERMS", "TERM", 6, ",")
    listed("CASES", "CASE", 6, "|")
    rule("KIND", "int", "word", "word ( KINDS6 )", "fn ( ) KIND", "fn ( KINDS6 ) KIND", "( )", "( KIND , KINDS5 )", "cell KIND")
    rule("TERM", "let word = TERM in TERM", "let ( ) = TERM in TERM", "let ( word , WORDS5 ) = TERM in TERM",
         "fun word ( ) = TERM in TERM", "fun word ( WORDS6 ) = TERM in TERM", "fn ( ) TERM", "fn ( WORDS6 ) TERM",
         "if TERM then TERM else TERM", "PAIR ; TERM", "PAIR")
    rule("PAIR", "SUM", "SUM < SUM", "SUM = SUM", "SUM := SUM")
    rule("SUM", "PRODUCT", "SUM + PRODUCT", "SUM - PRODUCT")
    rule("PRODUCT", "PREFIX", "PRODUCT * PREFIX")
    rule("PREFIX", "cell PREFIX", "get PREFIX", "say PREFIX", "CALL")
    rule("CALL", "ATOM", "CALL ( )", "CALL ( TERMS6 )")
    # An option behind which no bracket may stand is told by a sort of its own.
    rule("ATOM", "zero", "number", "- number", "- great", "word", "option!", "option ( TERMS6 )", "( )", "( TERM )",
         "( TERM , TERMS5 )", "match TERM { CASES6 }")
    rule("CASE", "option -> TERM", "option ( WORDS6 ) -> TERM")
    return rules


RULES = grammar()


def charts_of(sorts):
    """The charts ahead of and behind each piece, up to the first piece that no text goes on with."""
    charts = [predicted([("P8", body, 0, 0) for body in RULES["P8"]], [], 0)]
    for index, sort in enumerate(sorts):
        names = {sort}
        if sort == "option" and (index + 1 == len(sorts) or sorts[index + 1] != "("):
            names.add("option!")
        moved = [(name, body, dot + 1, start) for name, body, dot, start in charts[-1]
                 if dot < len(body) and body[dot] in names]
        if not moved:
            break
        charts.append(predicted(moved, charts, index + 1))
    return charts


def viable(sorts):
    """How many of the pieces stand at the beginning of some text."""
    return len(charts_of(sorts)) - 1


def ends(sorts):
    """Whether the pieces, all of which stand at the beginning of some text, are one."""
    return any(name == "P8" and dot == len(body) and start == 0 for name, body, dot, start in charts_of(sorts)[-1])


def predicted(items, charts, here):
    """The items with all that they bring about at this place."""
    seen = dict.fromkeys(items)
    pending = list(items)
    while pending:
        name, body, dot, start = pending.pop()
        if dot < len(body):
            new = [(body[dot], rule, 0, here) for rule in RULES.get(body[dot], ())]
        else:
            before = charts[start] if start < here else list(seen)
            new = [(n, b, d + 1, s) for n, b, d, s in before if d < len(b) and b[d] == name]
        for item in new:
            if item not in seen:
                seen[item] = None
                pending.append(item)
    return list(seen)
