"""Residues: what begins add to the tallies, reduced by the drifts."""

from evenends.courses import Course
from evenends.errors import TooMany
from evenends.wirekeys import kinds_under, tally_behind

MOST = 100


def all_residues(meetings, scale):
    """For each kind with which a begin comes at a wire, the residues on a scale, in order, and how begins have them.

    For a wire into a station, how is a tuple of a book and of one key and residue for each wire of the row.
    """
    net = meetings.net
    residues = {}
    for key in meetings.begins():
        tally = tally_behind(net, key[0])
        if tally is None:
            told = residues_by(residues, kinds_under(net, key), scale)
            residues[key] = {residue: told[residue] for residue in sorted(told)}
        else:
            residues[key] = {scale.at_tally(tally, key[1], None): None}
    return residues


def residues_by(residues, steps, scale):
    """The residues at a wire into a station, by the residues below and the books of the station with their rows."""
    told = {}
    for book, below in steps:
        sums = {scale.total([]): ()}
        for key in below:
            sums = sums_with(sums, key, list(residues[key]), scale)
        for residue in sums:
            if residue not in told:
                told[residue] = (book, sums[residue])
        check_count(told)
    return told


def sums_with(sums, key, residues, scale):
    """The sums of one of the sums before and one residue of a key, each with the residues of which it is made."""
    told = {}
    for before in sums:
        for residue in residues:
            total = scale.total([before, residue])
            if total not in told:
                told[total] = (*sums[before], (key, residue))
        # The begin of another wire only moves these sums, so no door whose items come here has fewer residues.
        check_count(told)
    return told


def check_count(residues):
    """Checks that there are not too many residues."""
    if len(residues) > MOST:
        raise TooMany(MOST)


def course_with(net, residues, key, residue):
    """A course of a door and kind, told by a key, whose begin has a residue."""
    choices = {}
    left = [(key, residue)]
    while left:
        place, at = left.pop()
        how = residues[place][at]
        if how is not None:
            book, below = how
            choices[net.goal(place[0])] = (book, book)
            left.extend(below)
    return Course.of(net, key[0], key[1], choices)
