"""Deeds: what can be done in a house."""

# For each word with which a deed begins, the number of its parts.
SIZES = {"open": 3, "close": 2, "move": 2, "book": 3, "restart": 2, "settle": 1}


def is_deed(value):
    """Whether any value is a tuple with one of these words and so many parts."""
    if not isinstance(value, tuple) or not value or not isinstance(value[0], str):
        return False
    return value[0] in SIZES and len(value) == SIZES[value[0]]
