"""Scales: what can be told to be worth something, and when two worths are the same.

On a scale worths that are the same are equal.
"""


class SumScale:
    """Worths are integers, and what is the same is told by a weighting."""

    def __init__(self, weighting):
        self._weighting = weighting
        self._vector = weighting.vector

    def worth(self, number):
        """The worth that an integer tells."""
        return self._weighting.remainder(number)

    def at_tally(self, tally, begin, end):
        """The worth of a pair at a wire that leads to a tally."""
        return self.worth(self._vector[tally.name] * (tally[begin] - tally[end]))

    def total(self, worths):
        """The sum of the worths of a list."""
        return self.worth(sum(worths))
