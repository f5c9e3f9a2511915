"""Texts cut into lines and words, and the words that several texts share."""

from evenends.errors import InvalidText
from evenends.names import is_name

VECTOR_DIGITS = 60
OTHER_DIGITS = 6


class Line:
    """One line of a text, cut into words; index is its place in the text."""

    def __init__(self, index, text):
        self.index = index
        self.words = text.split(" ")

    def word_at(self, at):
        """The word with an index, which must not be behind the last one."""
        if at >= len(self.words):
            raise InvalidText(self.index, at)
        return self.words[at]

    def name_at(self, at):
        """The word with an index, which must be a name."""
        return self.name_above(at, "")

    def name_above(self, at, last):
        """The word with an index, which must be a name greater than the last one."""
        word = self.word_at(at)
        if not is_name(word) or word <= last:
            raise InvalidText(self.index, at)
        return word

    def count_at(self, at):
        """The word with an index, which must be a number from 0 on."""
        number = read_number(self.word_at(at), OTHER_DIGITS)
        if number is None or number < 0:
            raise InvalidText(self.index, at)
        return number

    def end_at(self, at):
        """Checks that no word has this index."""
        if len(self.words) > at:
            raise InvalidText(self.index, at)


def line_of(text):
    """The line of any value that should be a text of one line."""
    if not isinstance(text, str):
        raise InvalidText(0, 0)
    return Line(0, text)


def lines_of(text):
    """The list of the lines of any value that should be a text of lines, perhaps of none."""
    if not isinstance(text, str):
        raise InvalidText(0, 0)
    if text == "":
        return []
    return [Line(index, row) for index, row in enumerate(text.split("\n"))]


def read_number(word, most):
    """The integer that a word writes with at most so many digits; None if it writes none."""
    digits = word.removeprefix("-")
    if not (digits.isascii() and digits.isdigit()) or len(digits) > most:
        return None
    if digits.startswith("0") and word != "0":
        return None
    return int(word)


def read_numbers(line, start, most):
    """The dict that the words NAME=NUMBER of a line tell from an index on."""
    numbers = {}
    last = ""
    for at in range(start, len(line.words)):
        name, _, digits = line.words[at].partition("=")
        number = read_number(digits, most)
        if not is_name(name) or name <= last or number is None or number == 0:
            raise InvalidText(line.index, at)
        numbers[name] = number
        last = name
    return numbers


def read_vector(line, start):
    """The numbers of the vector that the words of a line tell from an index on."""
    if line.word_at(start) == "0":
        line.end_at(start + 1)
        return {}
    return read_numbers(line, start, VECTOR_DIGITS)


def numbers_text(numbers):
    """The words NAME=NUMBER of a dict, in its order."""
    return " ".join([f"{name}={numbers[name]}" for name in numbers])


def read_link(text, sign, last):
    """The two names of a text NAME sign NAME; None if it is none, or the first is not above the last one."""
    name, _, other = text.partition(sign)
    if not is_name(name) or not is_name(other) or name <= last:
        return None
    return name, other
