"""What all kinds and terms have in common."""


def begins_with_word(value):
    """Whether any value is a tuple that begins with a string."""
    return type(value) is tuple and len(value) > 0 and type(value[0]) is str
