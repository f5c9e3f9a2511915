"""Certificates of sums are checked here; no history is run, and nothing is searched."""

from evenends.courses import are_alike, is_course
from evenends.forks import Forks
from evenends.names import is_integer
from evenends.scales import SumScale
from evenends.weightings import check_tallies
from evenends.wirekeys import is_kind_key, is_pair_key
from evenends.worthcheck import are_numbers, are_worths


def shows_clean(net, weighting, thing):
    """Whether any value shows that a weighting is clean, or that it is not."""
    check_tallies(net, weighting)
    if is_told(thing, "clean", 2):
        return shows_worths(net, weighting, thing[1])
    return shows_drift(net, weighting, thing)


def shows_level(net, weighting, thing):
    """Whether any value shows that a weighting is level, or that it is not."""
    check_tallies(net, weighting)
    if is_told(thing, "level", 3):
        return shows_worths(net, weighting, thing[1]) and shows_numbers(net, weighting, thing[2])
    if is_told(thing, "begins", 3):
        return shows_begins(net, weighting, thing[1], thing[2])
    return shows_drift(net, weighting, thing)


def is_told(thing, word, size):
    """Whether any value is a tuple of so many parts, the first of which is a word."""
    return isinstance(thing, tuple) and len(thing) == size and thing[0] == word


def shows_drift(net, weighting, thing):
    """Whether any value is a tuple of the word drifts and a course whose drift has another sum than 0."""
    if not is_told(thing, "drifts", 2) or not is_course(net, thing[1]):
        return False
    return weighting(thing[1].drift) != 0


def shows_begins(net, weighting, one, other):
    """Whether any two values are courses of one door and kind whose begins have different sums."""
    if not are_alike(net, one, other):
        return False
    return weighting(one.begin) != weighting(other.begin)


def shows_worths(net, weighting, thing):
    """Whether any value is a dict of worths of a weighting."""
    if not isinstance(thing, dict):
        return False
    if not all([is_pair_key(net, key) and is_integer(thing[key]) for key in thing]):
        return False
    scale = SumScale(weighting)
    return are_worths(Forks(net), {key: scale.worth(thing[key]) for key in thing}, scale)


def shows_numbers(net, weighting, thing):
    """Whether any value is a dict of numbers of a weighting."""
    if not isinstance(thing, dict):
        return False
    if not all([is_kind_key(net, key) and is_integer(thing[key]) for key in thing]):
        return False
    scale = SumScale(weighting)
    return are_numbers(Forks(net), {key: scale.worth(thing[key]) for key in thing}, scale)
