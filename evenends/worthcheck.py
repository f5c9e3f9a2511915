"""By which rules worths and numbers are checked. Nothing is searched: each outcome of each entry is looked at."""

from evenends.totals import Totals
from evenends.wirekeys import door_kinds, door_pairs


def are_worths(forks, worths, scale):
    """Whether a dict from pairs at wires to worths on a scale keeps to the rules of worths."""
    nothing = scale.total([])
    if not all([key in worths and worths[key] == nothing for key in door_pairs(forks.net)]):
        return False
    totals = Totals(forks, scale, worths)
    return all([is_right_worth(forks, worths, key, scale, totals) for key in worths])


def is_right_worth(forks, worths, key, scale, totals):
    """Whether the worth of a pair at a wire follows from the tally or from the worths behind the wire."""
    wire, begin, end = key
    worth = worths[key]
    if forks.ends[wire] is not None:
        return worth == scale.at_tally(forks.ends[wire], begin, end)
    return all([totals.at(number) == worth for _, number in forks.steps(key)])


def are_numbers(forks, numbers, scale):
    """Whether a dict from kinds at wires to worths on a scale keeps to the rules of numbers."""
    if not all([key in numbers for key in door_kinds(forks.net)]):
        return False
    return all([is_right_number(forks, numbers, key, scale) for key in numbers])


def is_right_number(forks, numbers, key, scale):
    """Whether the number of a kind at a wire follows from the tally or from the numbers behind the wire."""
    wire, kind = key
    if forks.ends[wire] is not None:
        return numbers[key] == scale.at_tally(forks.ends[wire], kind, None)
    for _, below in forks.rows_for(key):
        if not all([other in numbers for other in below]):
            return False
        if scale.total([numbers[other] for other in below]) != numbers[key]:
            return False
    return True
