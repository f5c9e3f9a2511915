"""Certificates of recounts are checked here; no history is run, and nothing is searched."""

from math import gcd

from evenends.costs import check_costs
from evenends.courses import are_alike
from evenends.formcheck import are_times_courses, is_times, sum_of_drifts
from evenends.sumcheck import shows_level
from evenends.weightings import Weighting


def shows_recount(net, costs, thing):
    """Whether any value shows which tallies tell all, and that no others that do cost less."""
    check_costs(net, costs)
    if not isinstance(thing, tuple) or len(thing) != 3:
        return False
    counted, levels, alone = thing
    if not isinstance(counted, tuple) or counted != tuple([name for name in net.tallies if name in counted]):
        return False
    if not has_keys(levels, [name for name in net.tallies if name not in counted]) or not has_keys(alone, counted):
        return False
    if not all([is_followed(net, costs, counted, name, levels[name]) for name in levels]):
        return False
    return all([stands_alone(net, counted, name, alone[name]) for name in alone])


def has_keys(value, names):
    """Whether any value is a dict with just these keys."""
    return isinstance(value, dict) and len(value) == len(names) and all([name in value for name in names])


def is_followed(net, costs, counted, name, value):
    """Whether any value shows that the errors of a tally follow from those of counted ones that cost no more."""
    if not isinstance(value, tuple) or len(value) != 3:
        return False
    weighting, worths, numbers = value
    if not isinstance(weighting, Weighting) or not leads_to(costs, counted, name, weighting):
        return False
    return shows_level(net, weighting, ("level", worths, numbers))


def leads_to(costs, counted, name, weighting):
    """Whether a weighting has the weights of a tally and of counted ones alone by which its errors follow."""
    weights = weighting.vector
    if weighting.modulo != 0 or weights[name] <= 0 or greatest_divisor(weights) != 1:
        return False
    others = [other for other in weights.names if other != name]
    return all([other in counted and costs[other] <= costs[name] for other in others])


def greatest_divisor(vector):
    """The greatest integer that divides all numbers of a vector."""
    divisor = 0
    for name in vector.names:
        divisor = gcd(divisor, vector[name])
    return divisor


def stands_alone(net, counted, name, value):
    """Whether any value shows that the errors of a counted tally do not follow from those of the other ones."""
    if not isinstance(value, tuple) or len(value) != 2:
        return False
    closed, begins = value
    if not are_times_courses(net, closed) or not are_times_pairs(net, begins):
        return False
    total = sum_of_drifts(closed)
    for times, one, other in begins:
        total = total + (one.begin - other.begin) * times
    return total[name] != 0 and all([total[other] == 0 for other in counted if other != name])


def are_times_pairs(net, value):
    """Whether any value is a tuple of tuples (times, course, course)."""
    return isinstance(value, tuple) and all([is_times_pair(net, part) for part in value])


def is_times_pair(net, value):
    """Whether any value is a tuple of an integer from 1 on and two courses of a net, of one door and kind."""
    if not isinstance(value, tuple) or len(value) != 3:
        return False
    return is_times(value[0]) and are_alike(net, value[1], value[2])
