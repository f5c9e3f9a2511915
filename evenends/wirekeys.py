"""Pairs and kinds at the wires of a net, as keys of dicts.

A pair at a wire is told by a key (wire, x, y), a kind at a wire by a key (wire, kind).
"""

from evenends.names import is_name
from evenends.parts import Tally


def is_part(value):
    """Whether any value can be a part of a pair."""
    return value is None or is_name(value)


def is_pair(begin, end):
    """Whether any two values are the parts of a pair."""
    return is_part(begin) and is_part(end) and not (begin is None and end is None)


def place_of(pair):
    """By what pairs are in order."""
    begin, end = pair
    return begin or "", end or ""


def is_pair_key(net, key):
    """Whether any value that can be a key is a pair at a wire of a net."""
    return isinstance(key, tuple) and len(key) == 3 and key[0] in net.wires and is_pair(key[1], key[2])


def is_kind_key(net, key):
    """Whether any value that can be a key is a kind at a wire of a net."""
    return isinstance(key, tuple) and len(key) == 2 and key[0] in net.wires and is_name(key[1])


def door_pairs(net):
    """A list of the pairs at the wires of the doors."""
    return [(door, kind, kind) for door, kind in door_kinds(net)]


def door_kinds(net):
    """A list of the doors, ascending, each with each kind that opens there, ascending."""
    return [(door, kind) for door in net.doors for kind in net[door].kinds]


def tally_behind(net, wire):
    """The tally to which a wire leads; None if it leads to a station."""
    goal = net[net.goal(wire)]
    return goal if isinstance(goal, Tally) else None
