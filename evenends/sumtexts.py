"""The texts of weightings."""

from evenends.errors import InvalidText
from evenends.texts import OTHER_DIGITS, VECTOR_DIGITS, read_number

SIGNS = {"+": 1, "-": -1}


def weighting_text(weights, modulo):
    """The text of a weighting with these weights, ascending and none of them 0, and this modulus."""
    words = []
    for name in weights:
        if weights[name] < 0:
            words.append("-")
        elif words:
            words.append("+")
        if abs(weights[name]) > 1:
            words.append(str(abs(weights[name])))
        words.append(name)
    if not words:
        words.append("0")
    if modulo != 0:
        words.extend(["mod", str(modulo)])
    return " ".join(words)


def read_sum(line, start):
    """The weights and the modulus that the words of a line tell from an index on."""
    if line.word_at(start) == "0":
        return {}, read_modulus(line, start + 1, {})
    weights = {}
    last = ""
    # Before the first term there is no sign, or the sign -.
    at = start if line.words[start] == "-" else start - 1
    while at < start or is_sign(line, at):
        sign = 1 if at < start else SIGNS[line.words[at]]
        weight, last, at = read_term(line, at + 1, last)
        weights[last] = sign * weight
    return weights, read_modulus(line, at, weights)


def is_sign(line, at):
    """Whether a sign stands at an index, which can be behind the last word."""
    return at < len(line.words) and line.words[at] in SIGNS


def read_term(line, at, last):
    """The weight and the name of the term from an index on, and the index behind it."""
    weight = read_number(line.word_at(at), OTHER_DIGITS)
    if weight is None:
        return 1, line.name_above(at, last), at + 1
    if weight < 2:
        raise InvalidText(line.index, at)
    return weight, line.name_above(at + 1, last), at + 2


def read_modulus(line, at, weights):
    """The modulus that the words from an index on tell; 0 if there are none."""
    if at == len(line.words):
        return 0
    numbers = list(weights.values())
    if line.words[at] != "mod" or min(numbers, default=0) < 0:
        raise InvalidText(line.index, at)
    modulo = read_number(line.word_at(at + 1), VECTOR_DIGITS)
    if modulo is None or modulo <= max([1, *numbers]):
        raise InvalidText(line.index, at + 1)
    line.end_at(at + 2)
    return modulo
