"""What outcomes are worth: each is added up once, by what the pairs in it are worth."""


class Totals:
    """The totals of outcomes on a scale, by a dict of worths to which more can be added meanwhile."""

    def __init__(self, forks, scale, worths):
        self._forks = forks
        self._scale = scale
        self._worths = worths
        self._known = {}

    def at(self, number):
        """The total of the outcome with a number; None if a pair in it has no worth."""
        if number not in self._known:
            worths = [self._worths.get(key) for key in self._forks.keys_of(number)]
            self._known[number] = None if None in worths else self._scale.total(worths)
        return self._known[number]
