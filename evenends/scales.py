"""Scales: what can be told to be worth something, and when two worths are the same.

On a scale worths that are the same are equal.
"""

from evenends.points import code_of, largest, multiple, plus, point_of, unit_point, zero_point
from evenends.stairs import reduced_by


class SumScale:
    """Worths are integers, and what is the same is told by a weighting."""

    def __init__(self, weighting):
        self._weighting = weighting
        self._vector = weighting.vector

    def worth(self, number):
        """The worth that an integer tells."""
        return self._weighting.remainder(number)

    def at_tally(self, tally, begin, end):
        """The worth of a pair at a wire that leads to a tally."""
        return self.worth(self._vector[tally.name] * (tally[begin] - tally[end]))

    def total(self, worths):
        """The sum of the worths of a list."""
        return self.worth(sum(worths))


class TableScale:
    """Worths are vectors at some names, and what is the same is told by a lattice of such vectors."""

    def __init__(self, lattice, names):
        self._places = names
        self._stairs = [point_of(vector, names) for vector in lattice.basis]

    def worth(self, vector):
        """The worth that a vector tells."""
        return self.shortened(point_of(vector, self._places))

    def shortened(self, point):
        """The worth that the numbers of a vector at all names tell."""
        return reduced_by(self._stairs, point)

    def at_tally(self, tally, begin, end):
        """The worth of a pair at a wire that leads to a tally."""
        place = self._places.index(tally.name)
        point = multiple(unit_point(len(self._places), place), tally[begin] - tally[end])
        return reduced_by(self._stairs, point)

    def total(self, worths):
        """The sum of the worths of a list."""
        point = zero_point(len(self._places))
        for worth in worths:
            point = plus(point, worth)
        return reduced_by(self._stairs, point)

    def totals(self, ones, others, most):
        """A dict from the sums of one worth of each of two lists to two such worths; not all, if more than most."""
        told = {}
        for one, other in unlike_sums(ones, others):
            total = self.shortened(plus(one, other))
            if total not in told:
                told[total] = (one, other)
            if len(told) > most:
                return told
        return told


def unlike_sums(ones, others):
    """A list of tuples of one point of each of two lists, one tuple for each sum of them."""
    if len(ones) == 1 or len(others) == 1:
        return [(one, other) for one in ones for other in others]
    # Most sums come again and again, and codes tell so with much less work than points.
    base = 4 * (largest([*ones, *others]) + 1)
    codes = [code_of(other, base) for other in others]
    found = {}
    for one in ones:
        start = code_of(one, base)
        for other, code in zip(others, codes):
            if start + code not in found:
                found[start + code] = (one, other)
    return list(found.values())
