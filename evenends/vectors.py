"""Vectors: integers by name."""

from evenends.errors import InvalidVector
from evenends.names import gives_integers, kept_numbers
from evenends.texts import line_of, numbers_text, read_vector


class Vector:
    """Gives each name an integer, 0 to all but some names."""

    def __init__(self, **numbers):
        if not gives_integers(numbers):
            raise InvalidVector()
        self._numbers = kept_numbers(numbers)

    @classmethod
    def of(cls, numbers):
        """The vector with the numbers of a dict."""
        if not gives_integers(numbers):
            raise InvalidVector()
        return cls(**numbers)

    @staticmethod
    def zero():
        """The vector that is 0 everywhere."""
        return Vector()

    @classmethod
    def read(cls, text):
        """The vector with this text."""
        numbers = read_vector(line_of(text), 0)
        return cls(**numbers)

    @property
    def names(self):
        """The ascending tuple of the names with a number other than 0."""
        return tuple(self._numbers)

    def __getitem__(self, at):
        if not isinstance(at, str):
            return 0
        return self._numbers.get(at, 0)

    def __iter__(self):
        raise TypeError("a vector is not iterated over, but its names are")

    def __len__(self):
        return len(self._numbers)

    def __bool__(self):
        return bool(self._numbers)

    def __contains__(self, x):
        return isinstance(x, str) and x in self._numbers

    def __add__(self, other):
        numbers = plus(self._numbers, other._numbers, 1)
        return Vector(**numbers)

    def __sub__(self, other):
        numbers = plus(self._numbers, other._numbers, -1)
        return Vector(**numbers)

    def __neg__(self):
        return self * -1

    def __mul__(self, other):
        numbers = {name: self._numbers[name] * other for name in self._numbers}
        return Vector(**numbers)

    def dot(self, other):
        """The sum over all names of the products of the numbers of both."""
        return sum([self[name] * other[name] for name in self._numbers])

    def __eq__(self, other):
        return isinstance(other, Vector) and self._numbers == other._numbers

    def __str__(self):
        return str(vector_text(self._numbers))

    def __repr__(self):
        return f"Vector({self})"


def plus(one, other, times):
    """The numbers of one dict plus so many times those of the other."""
    numbers = dict(one)
    for name in other:
        numbers[name] = numbers.get(name, 0) + other[name] * times
    return numbers


def vector_text(numbers):
    """The text of a vector with these numbers, none of them 0."""
    if not numbers:
        return "0"
    return numbers_text(numbers)
