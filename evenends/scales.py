"""Scales: what can be told to be worth something, and when two worths are the same.

On a scale worths that are the same are equal.
"""

from evenends.points import multiple, plus, point_of, unit_point, zero_point
from evenends.stairs import reduced_by


class SumScale:
    """Worths are integers, and what is the same is told by a weighting."""

    def __init__(self, weighting):
        self._weighting = weighting
        self._vector = weighting.vector

    def worth(self, number):
        """The worth that an integer tells."""
        return self._weighting.remainder(number)

    def at_tally(self, tally, begin, end):
        """The worth of a pair at a wire that leads to a tally."""
        return self.worth(self._vector[tally.name] * (tally[begin] - tally[end]))

    def total(self, worths):
        """The sum of the worths of a list."""
        return self.worth(sum(worths))


class TableScale:
    """Worths are vectors at some names, and what is the same is told by a lattice of such vectors."""

    def __init__(self, lattice, names):
        self._places = names
        self._stairs = [point_of(vector, names) for vector in lattice.basis]

    def worth(self, vector):
        """The worth that a vector tells."""
        return reduced_by(self._stairs, point_of(vector, self._places))

    def at_tally(self, tally, begin, end):
        """The worth of a pair at a wire that leads to a tally."""
        place = self._places.index(tally.name)
        point = multiple(unit_point(len(self._places), place), tally[begin] - tally[end])
        return reduced_by(self._stairs, point)

    def total(self, worths):
        """The sum of the worths of a list."""
        point = zero_point(len(self._places))
        for worth in worths:
            point = plus(point, worth)
        return reduced_by(self._stairs, point)
