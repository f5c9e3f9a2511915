"""Drifts: what closed items can leave in the tallies; errors, and the sums that are always right."""

from evenends.faults import Faults
from evenends.makers import Maker
from evenends.meetings import Meetings


def drifts(net):
    """The lattice of the drifts of a net."""
    return Maker(Meetings(net)).all_drifts()


def errors_of(net):
    """The lattice of the errors of a net."""
    return Faults(Meetings(net)).all_errors()


def made_of(net, vector):
    """A tuple of tuples (times, course) whose drifts add up to a vector; None if it is not in the drifts."""
    return Maker(Meetings(net)).made(vector)


def clean_sums(net):
    """The lattice of the weights of all clean weightings without a modulus."""
    tallies = net.tallies
    return drifts(net).across(*tallies)


def level_sums(net):
    """The lattice of the weights of all level weightings without a modulus."""
    tallies = net.tallies
    return errors_of(net).across(*tallies)
