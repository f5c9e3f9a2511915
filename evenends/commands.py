"""The lines of a desk: which words fit, and what they tell."""

from evenends.deeds import SIZES
from evenends.errors import InvalidText, UnknownCommand
from evenends.names import is_name
from evenends.stories import read_deed
from evenends.sumtexts import read_sum
from evenends.texts import OTHER_DIGITS, Line, read_number, read_vector
from evenends.vectors import Vector
from evenends.weightings import Weighting

# The words with which lines begin, beside those of deeds.
OTHERS = ("net", "show", "table", "meant", "items", "drifts", "sum", "could", "count", "undo")


def read_command(line):
    """The first word of any value that should be a line, and what its other words tell."""
    if not isinstance(line, str):
        raise UnknownCommand(0)
    row = Line(0, line)
    word = row.words[0]
    if word not in SIZES and word not in OTHERS:
        raise UnknownCommand(0)
    try:
        return word, read_rest(row, word)
    except InvalidText as error:
        raise UnknownCommand(error.word) from None


def read_rest(row, word):
    """What the words behind the first one tell: a deed, a text, a weighting, a vector or costs; otherwise None."""
    if word in SIZES:
        return read_deed(row)
    if word == "net":
        return read_lines(row)
    if word == "sum":
        weights, modulo = read_sum(row, 1)
        return Weighting.of(weights, modulo)
    if word == "could":
        return Vector.of(read_vector(row, 1))
    if word == "count":
        return read_costs(row)
    row.end_at(1)
    return None


def read_lines(row):
    """The text whose lines stand behind the first word, with the word / between two lines."""
    lines = [[]]
    for at in range(1, len(row.words)):
        word = row.words[at]
        if word == "" or "\n" in word:
            raise InvalidText(row.index, at)
        if word == "/":
            lines.append([])
        else:
            lines[-1].append(word)
    return "\n".join([" ".join(words) for words in lines])


def read_costs(row):
    """The dict that the words NAME=NUMBER behind the first word tell; a number can be 0."""
    costs = {}
    last = ""
    for at in range(1, len(row.words)):
        name, _, digits = row.words[at].partition("=")
        number = read_number(digits, OTHER_DIGITS)
        if not is_name(name) or name <= last or number is None or number < 0:
            raise InvalidText(row.index, at)
        costs[name] = number
        last = name
    return costs
