"""Residues: what begins add to the tallies, reduced by the drifts."""

from evenends.courses import Course
from evenends.errors import TooMany

MOST = 100


def all_residues(meetings, scale):
    """For each kind with which a begin comes at a wire, the residues on a scale, in order, and how begins have them.

    For a wire into a station, how is a tuple of a book and of one key and residue for each wire of the row.
    """
    forks = meetings.forks
    residues = {}
    for key in meetings.begins():
        tally = forks.ends[key[0]]
        if tally is None:
            told = residues_by(residues, forks.rows_for(key), scale)
            residues[key] = {residue: told[residue] for residue in sorted(told)}
        else:
            residues[key] = {scale.at_tally(tally, key[1], None): None}
    return residues


def residues_by(residues, steps, scale):
    """The residues at a wire into a station, by the residues below and the books of the station with their rows."""
    told = {}
    for book, below in steps:
        sums = {scale.total([]): ()}
        for key in below:
            # The begin of another wire only moves these sums, so no door whose items come here has fewer residues.
            sums = sums_with(sums, key, list(residues[key]), scale, MOST)
        for residue in sums:
            if residue not in told:
                told[residue] = (book, sums[residue])
        check_count(told, MOST)
    return told


def sums_with(sums, key, residues, scale, most):
    """The sums of one of the sums before and one residue of a key, each with the residues of which it is made."""
    told = scale.totals(list(sums), residues, most)
    check_count(told, most)
    return {total: (*sums[told[total][0]], (key, told[total][1])) for total in told}


def check_count(sums, most):
    """Checks that there are not too many sums."""
    if len(sums) > most:
        raise TooMany(most)


def course_with(net, residues, key, residue):
    """A course of a door and kind, told by a key, whose begin has a residue."""
    choices = {}
    left = [(key, residue)]
    while left:
        place, at = left.pop()
        how = residues[place][at]
        if how is not None:
            book, below = how
            choices[net.goal(place[0])] = (book, book)
            left.extend(below)
    return Course.of(net, key[0], key[1], choices)
