"""What stands in code, member by member, as octets tell it."""

MOST_DEEP = 60
# A number is below this one; so many groups of seven bits tell it.
NUMBER_BOUND = 34359738368
MOST_GROUPS = 5
# An integer of programs is told by a number below this one.
INTEGER_BOUND = 4294967296
CODE = ("number", "blocks")
# What stands behind each word, in the sequence of the octets that stand for the words.
NODES = {
    "kind": (
        ("int", ()), ("free", ("number",)), ("var", ("number",)), ("room", ("places",)), ("one", ("kinds",)),
        ("cell", ("kind",)), ("some", ("kind",)), ("rec", ("kind",)), ("code", ("number", "regs")),
    ),
    "word": (
        ("int", ("integer",)), ("register", ("number",)), ("label", ("number",)), ("at", ("word", "kinds")),
        ("hide", ("kind", "word", "kind")), ("fold", ("kind", "word")), ("unfold", ("word",)),
    ),
    "row": (
        ("move", ("number", "word")), ("sum", ("sum word", "number", "word", "word")), ("room", ("number", "kinds")),
        ("load", ("number", "word", "number")), ("store", ("number", "number", "word")),
        ("tagged", ("number", "number", "kind", "word")), ("cell", ("number", "word")), ("get", ("number", "word")),
        ("set", ("number", "word")), ("open", ("number", "word")), ("say", ("word",)), ("branch", ("word", "word")),
    ),
    "end": (("jump", ("word",)), ("pick", ("number", "words")), ("halt", ("word",))),
}
# The tuples of any length, and what stands in them.
LISTS = {"kinds": "kind", "words": "word", "rows": "row", "blocks": "block", "regs": "reg", "places": "place"}
# The tuples without a word; of a "place" the truth is told ahead of the kind.
PLAIN = {"block": ("number", "regs", "rows", "end"), "reg": ("number", "kind")}
