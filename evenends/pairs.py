"""Pairs: which of them are met at the wires of a net."""

from evenends.errors import UnknownName
from evenends.forks import Forks
from evenends.meetings import Meetings
from evenends.stations import Keeper
from evenends.wirekeys import door_pairs, is_pair, place_of


def pairs(net):
    """A new dict from all wires to the tuples of the pairs that are met there, in order."""
    meetings = Meetings(net)
    told = {wire: [] for wire in net.wires}
    for wire, begin, end in meetings.links:
        told[wire].append((begin, end))
    return {wire: tuple(sorted(told[wire], key=place_of)) for wire in told}


def met(net, wire, begin, end):
    """A course that has a pair at a wire; None if no course has it, or for any values that are no pair."""
    if wire not in net.wires:
        raise UnknownName(wire)
    if not is_pair(begin, end):
        return None
    meetings = Meetings(net)
    key = (wire, begin, end)
    return meetings.course(key) if key in meetings.links else None


def endless(net):
    """The ascending tuple of the keepers, each with a kind whose row it can remember for ever."""
    meetings = Meetings(net)
    found = [(net.goal(wire), begin) for wire, begin, end in meetings.links if end is None]
    return tuple(sorted({(name, kind) for name, kind in found if keeps_for_ever(net, name)}))


def keeps_for_ever(net, name):
    """Whether a part of a net is a keeper that never forgets."""
    return name in net.stations and net[name].KIND == Keeper.KIND


def shows_pairs(net, thing):
    """Whether any value tells pairs at all wires, in order, and with each pair all those that follow from it."""
    if not isinstance(thing, dict) or not all([wire in net.wires for wire in thing]):
        return False
    if not all([wire in thing and are_pairs_in_order(thing[wire]) for wire in net.wires]):
        return False
    told = {(wire, *pair): True for wire in thing for pair in thing[wire]}
    forks = Forks(net)
    numbers = {number: True for key in told for _, number in forks.steps(key)}
    if not all([key in told for key in door_pairs(net)]):
        return False
    return all([key in told for number in numbers for key in forks.keys_of(number)])


def are_pairs_in_order(value):
    """Whether any value is a tuple of pairs, in order, each once."""
    if not isinstance(value, tuple) or not all([is_pair_tuple(pair) for pair in value]):
        return False
    return all([place_of(one) < place_of(other) for one, other in zip(value, value[1:])])


def is_pair_tuple(value):
    """Whether any value is a tuple of the two parts of a pair."""
    return isinstance(value, tuple) and len(value) == 2 and is_pair(value[0], value[1])
