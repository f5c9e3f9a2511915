"""Recounts: the cheapest tallies to count by hand so that all tallies can be put right."""

from evenends.costs import check_costs, strange_keys
from evenends.errors import InvalidCount
from evenends.faults import Faults
from evenends.meetings import Meetings
from evenends.names import is_integer
from evenends.points import is_zero, minus, point_of, vector_at, zero_point
from evenends.stairs import reduced_by, stairs_of, with_point
from evenends.sums import cleaned, levelled
from evenends.weightings import Weighting, check_tallies


class Recount:
    """Tallies that tell all, why they do, and why none of them can be left out."""

    def __init__(self, net, errors, counted, cost, levels, alone):
        self._net = net
        self.counted = counted
        self.cost = cost
        self._levels = levels
        self._alone = alone
        # The counted tallies stand first, so what they show tells how errors are made.
        self._places = (*counted, *[name for name in net.tallies if name not in counted])
        self._stairs = stairs_of([point_of(vector, self._places) for vector in errors.basis])

    @property
    def levels(self):
        """A new dict from each other tally to a level weighting that tells its errors, with worths and numbers."""
        return {name: with_new_dicts(self._levels[name]) for name in self._levels}

    @property
    def alone(self):
        """A new dict from each counted tally to what adds up to an error that the other counted ones do not show."""
        return dict(self._alone)

    def right(self, table, counted):
        """The vector that the tallies should show if they show a table and the counted ones should show this."""
        check_tallies(self._net, table)
        check_counted(self.counted, counted)
        wrong = tuple([table[name] - counted[name] for name in self.counted])
        point = (*wrong, *zero_point(len(self._places) - len(wrong)))
        rest = reduced_by(self._stairs, point)
        if not is_zero(rest[:len(wrong)]):
            raise InvalidCount(None)
        return table - vector_at(self._places, minus(point, rest))


def recount(net, costs):
    """The cheapest tallies that tell all."""
    check_costs(net, costs)
    meetings = Meetings(net)
    faults = Faults(meetings)
    errors = faults.all_errors()
    counted = cheapest(net, costs, errors)
    cost = sum([costs[name] for name in counted])
    levels = {name: levelling(meetings, errors, counted, name) for name in net.tallies if name not in counted}
    alone = {name: faults.apart(name, [other for other in counted if other != name]) for name in counted}
    return Recount(net, errors, counted, cost, levels, alone)


def cheapest(net, costs, errors):
    """The ascending tuple of the tallies whose errors do not follow from those of the tallies before them."""
    counted = []
    stairs = []
    for name in sorted(net.tallies, key=lambda tally: (costs[tally], tally)):
        more = with_point(stairs, tuple([vector[name] for vector in errors.basis]))
        # What follows from others makes the lattice finer at most, but not higher.
        if len(more) > len(stairs):
            counted.append(name)
        stairs = more
    return tuple(sorted(counted))


def levelling(meetings, errors, counted, name):
    """The level weighting that tells the errors of a tally by those of counted ones, with its worths and numbers."""
    names = (*counted, name)
    weights = errors.across(*names).basis[0]
    # Other weightings are multiples of this one, since the errors of counted tallies do not follow from one another.
    sign = 1 if weights[name] > 0 else -1
    weighting = Weighting.of({other: weights[other] * sign for other in weights.names})
    _, worths = cleaned(meetings, weighting)
    _, worths, numbers = levelled(meetings, weighting, worths)
    return weighting, worths, numbers


def check_counted(names, counted):
    """Checks that any value is a dict that has an integer for each counted tally, and for nothing else."""
    if not isinstance(counted, dict):
        raise InvalidCount(None)
    wrong = strange_keys(counted, names)
    wrong.extend([name for name in names if not is_integer(counted.get(name))])
    if wrong:
        raise InvalidCount(wrong[0])


def with_new_dicts(told):
    """A weighting with copies of its worths and numbers."""
    weighting, worths, numbers = told
    return weighting, {key: worths[key] for key in worths}, {key: numbers[key] for key in numbers}
