"""Names, integers, and the dicts that are made of them."""


def is_name(value):
    """Whether any value is a name: one to eight letters from a to z, other than self."""
    if not isinstance(value, str) or len(value) > 8:
        return False
    return value.isascii() and value.isalpha() and value.islower() and value != "self"


def is_integer(value):
    """Whether any value is an int that is no bool."""
    return isinstance(value, int) and not isinstance(value, bool)


def gives_integers(value):
    """Whether any value is a dict from names to integers."""
    if not isinstance(value, dict):
        return False
    return all([is_name(name) and is_integer(value[name]) for name in value])


def gives_names(value):
    """Whether any value is a dict from names to names."""
    if not isinstance(value, dict):
        return False
    return all([is_name(name) and is_name(value[name]) for name in value])


def in_order(table):
    """A new dict with the entries of a dict, keys ascending."""
    return {key: table[key] for key in sorted(table)}


def kept_numbers(numbers):
    """A new dict of the numbers other than 0, names ascending."""
    return {name: numbers[name] for name in sorted(numbers) if numbers[name] != 0}
