"""Codes: integers that stand for vectors at the tallies of a net, so that adding these up takes little time."""


class CodeScale:
    """Worths are codes. The codes of all that courses can leave are different, and sums have the sum of the codes."""

    def __init__(self, net):
        amounts = [abs(number) for name in net.tallies for number in net[name].amounts.values()]
        # A begin and an end bring at most one amount by each wire, so no number of a drift is greater than this half.
        self._half = 2 * len(net.wires) * max(amounts, default=0)
        self._base = 2 * self._half + 1
        self._units = {}
        unit = 1
        for name in net.tallies:
            self._units[name] = unit
            unit = unit * self._base

    def at_tally(self, tally, begin, end):
        """The worth of a pair at a wire that leads to a tally."""
        return self._units[tally.name] * (tally[begin] - tally[end])

    def total(self, worths):
        """The sum of the worths of a list."""
        return sum(worths)

    def point(self, worth):
        """The numbers at the tallies of the vector for which a code stands."""
        numbers = []
        rest = worth
        for _ in self._units:
            number = (rest + self._half) % self._base - self._half
            numbers.append(number)
            rest = (rest - number) // self._base
        return tuple(numbers)
