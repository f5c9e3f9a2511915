"""By which rules worths and numbers are checked. Nothing is searched: each entry is looked at once."""

from evenends.wirekeys import door_kinds, door_pairs, kinds_under, pairs_under, tally_behind


def are_worths(net, worths, scale):
    """Whether a dict from pairs at wires to worths on a scale keeps to the rules of worths."""
    nothing = scale.total([])
    if not all([key in worths and worths[key] == nothing for key in door_pairs(net)]):
        return False
    return all([is_right_worth(net, worths, key, scale) for key in worths])


def is_right_worth(net, worths, key, scale):
    """Whether the worth of a pair at a wire follows from the tally or from the worths behind the wire."""
    wire, begin, end = key
    tally = tally_behind(net, wire)
    if tally is None:
        return adds_up(worths, key, pairs_under(net, key), scale)
    return worths[key] == scale.at_tally(tally, begin, end)


def are_numbers(net, numbers, scale):
    """Whether a dict from kinds at wires to worths on a scale keeps to the rules of numbers."""
    if not all([key in numbers for key in door_kinds(net)]):
        return False
    return all([is_right_number(net, numbers, key, scale) for key in numbers])


def is_right_number(net, numbers, key, scale):
    """Whether the number of a kind at a wire follows from the tally or from the numbers behind the wire."""
    wire, kind = key
    tally = tally_behind(net, wire)
    if tally is None:
        return adds_up(numbers, key, kinds_under(net, key), scale)
    return numbers[key] == scale.at_tally(tally, kind, None)


def adds_up(table, key, steps, scale):
    """Whether the worth of a key is what the keys below it are worth, whichever step is taken."""
    for _, below in steps:
        if not all([other in table for other in below]):
            return False
        if scale.total([table[other] for other in below]) != table[key]:
            return False
    return True
