"""How many parts a kind or a term has, and how deep they are nested."""

from kindscarried.shapes import begins_with_word


def keeps_within(whole, most_parts, most_deep):
    """Whether so many tuples that begin with a word, nested so deep, are enough.

    Kinds, found kinds and core terms are measured alike: each of their parts
    is a tuple that begins with a word, and no other tuple in them does.
    """
    parts = 0
    pending = [(whole, 1)]
    while pending:
        value, depth = pending.pop()
        deeper = depth
        if begins_with_word(value):
            parts = parts + 1
            if parts > most_parts or depth > most_deep:
                return False
            deeper = depth + 1
        for member in value:
            if type(member) is tuple:
                pending.append((member, deeper))
    return True
