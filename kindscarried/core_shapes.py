"""What stands in the terms of core."""

# What stands behind the word of each term, member by member. A "body" and
# "bodies" stand in a greater scope than the term, and a "branch" in the same one;
# none of these is evaluated. The own kinds of a "fun" have its own variables.
SLOTS = {
    "int": ("number",),
    "name": ("index",),
    "sum": ("sum word", "term", "term"),
    "when": ("term", "branch", "branch"),
    "let": ("term", "body"),
    "fun": ("many", "own kinds", "own kind", "body"),
    "call": ("term", "kinds", "terms"),
    "row": ("terms",),
    "part": ("term", "index"),
    "tag": ("index", "kind", "term"),
    "match": ("term", "bodies"),
    "cell": ("term",),
    "get": ("term",),
    "set": ("term", "term"),
    "fold": ("kind", "term"),
    "unfold": ("term",),
    "hide": ("kind", "term", "kind"),
    "open": ("term", "body"),
    "say": ("term",),
    "spot": ("index",),
}
# The words of terms that are done as soon as all that they evaluate is.
DONE_WORDS = ("int", "spot", "fun", "row", "tag", "fold", "hide")


def evaluated_terms(term):
    """The list of (place, term) of what a term evaluates, from left to right."""
    rows = []
    for at, slot in enumerate(SLOTS[term[0]]):
        member = term[at + 1]
        if slot == "term":
            rows.append(((at + 1,), member))
        elif slot == "terms":
            rows.extend([((at + 1, index), inner) for index, inner in enumerate(member)])
    return rows


def names_bound(term):
    """How many names a term binds in its body: a "fun" also that of itself, others one."""
    return 1 + len(term[2]) if term[0] == "fun" else 1


def kinds_bound(term):
    """How many kind variables a term binds in its body."""
    if term[0] == "fun":
        return term[1]
    return 1 if term[0] == "open" else 0
