"""What pairs and begins leave in the tallies, as points at all tallies of a net, and which drifts courses have."""

from evenends.lattices import Lattice
from evenends.points import minus, plus
from evenends.scales import TableScale
from evenends.wirekeys import kinds_under, tally_behind


def plain_scale(net):
    """The scale on which only equal vectors are the same."""
    return TableScale(Lattice.zero(), net.tallies)


def pair_bases(meetings, scale):
    """What each met pair leaves, if every station below has its first book twice and forgets nothing."""
    bases = {}
    for key in meetings.upwards():
        tally = tally_behind(meetings.net, key[0])
        if tally is None:
            _, below = meetings.under[key][0]
            bases[key] = scale.total([bases[other] for other in below])
        else:
            bases[key] = scale.at_tally(tally, key[1], key[2])
    return bases


def drift_courses(meetings):
    """Drifts of courses that make all drifts: a dict from each to a met pair and a choice that tell a course.

    The course goes to this pair, makes this choice at the station to which its wire leads, and has first books below.
    """
    scale = plain_scale(meetings.net)
    bases = pair_bases(meetings, scale)
    drifts_by = {}
    courses = {}
    for key in meetings.links:
        # The course to the pair is the one that the key above and the choice there tell.
        link = meetings.links[key]
        drift = scale.total([]) if link is None else drifts_by[link]
        above = minus(drift, bases[key])
        for choice, below in meetings.under[key]:
            drift = plus(above, scale.total([bases[other] for other in below]))
            drifts_by[(key, choice)] = drift
            if drift not in courses:
                courses[drift] = (key, choice)
    return courses


def begin_courses(meetings):
    """Differences of begins at one station alone that make all: a dict from each to a met pair and a book.

    Less than by this book, something adds by the first one if courses go to this pair and have first books below.
    """
    net = meetings.net
    scale = plain_scale(net)
    bases = {}
    courses = {}
    begins = meetings.begins()
    for key in begins:
        tally = tally_behind(net, key[0])
        if tally is not None:
            bases[key] = scale.at_tally(tally, key[1], None)
            continue
        totals = [(book, scale.total([bases[other] for other in below])) for book, below in kinds_under(net, key)]
        _, bases[key] = totals[0]
        for book, total in totals:
            difference = minus(total, bases[key])
            if difference not in courses:
                courses[difference] = (begins[key], book)
    return courses
