"""Weightings: weighted sums of tallies."""

from evenends.errors import InvalidWeighting, UnknownName
from evenends.names import gives_integers, is_integer, kept_numbers
from evenends.sumtexts import read_sum, weighting_text
from evenends.texts import line_of
from evenends.vectors import Vector


class Weighting:
    """Gives some tallies weights, and has a modulus."""

    def __init__(self, modulo=0, **numbers):
        check_weights(modulo, numbers)
        self.modulo = modulo
        self._weights = kept_weights(modulo, numbers)

    @classmethod
    def of(cls, numbers, modulo=0):
        """The weighting with the weights of a dict."""
        check_weights(modulo, numbers)
        weighting = Weighting(modulo)
        # A tally can be called modulo, so the weights cannot be passed as keywords.
        weighting._weights = kept_weights(modulo, numbers)
        return weighting

    @classmethod
    def read(cls, text):
        """The weighting with this text."""
        weights, modulo = read_sum(line_of(text), 0)
        return cls.of(weights, modulo)

    @property
    def names(self):
        """The ascending tuple of the names with a weight."""
        return tuple(self._weights)

    @property
    def vector(self):
        """The vector of the weights."""
        return Vector.of(self._weights)

    def remainder(self, number):
        """The integer that stands for all those that are the same as this one."""
        if self.modulo == 0:
            return number
        return number % self.modulo

    def __call__(self, vector):
        return self.remainder(self.vector.dot(vector))

    def __eq__(self, other):
        return isinstance(other, Weighting) and self.modulo == other.modulo and self._weights == other._weights

    def __str__(self):
        return str(weighting_text(self._weights, self.modulo))

    def __repr__(self):
        return f"Weighting({self})"


def check_weights(modulo, numbers):
    """Checks any values of which a weighting should be made."""
    if not is_integer(modulo) or modulo < 0 or modulo == 1:
        raise InvalidWeighting("modulo")
    if not gives_integers(numbers):
        raise InvalidWeighting("numbers")


def kept_weights(modulo, numbers):
    """The weights other than 0, ascending, as remainders if the modulus is not 0."""
    if modulo == 0:
        return kept_numbers(numbers)
    return kept_numbers({name: numbers[name] % modulo for name in numbers})


def check_tallies(net, named):
    """Checks that the names of a weighting or a vector are tallies of a net."""
    unknown = [name for name in named.names if name not in net.tallies]
    if unknown:
        raise UnknownName(unknown[0])
