"""Sums: whether closed items leave nothing in a weighting, and whether it always tells what is open."""

from evenends.meetings import Meetings
from evenends.scales import SumScale
from evenends.totals import Totals
from evenends.weightings import check_tallies


def clean(net, weighting):
    """The worths that show that a weighting is clean, or a course for whose drift its sum is not 0."""
    check_tallies(net, weighting)
    return cleaned(Meetings(net), weighting)


def level(net, weighting):
    """The worths and numbers that show that a weighting is level, or courses that show that it is not."""
    check_tallies(net, weighting)
    meetings = Meetings(net)
    told = cleaned(meetings, weighting)
    if told[0] != "clean":
        return told
    return levelled(meetings, weighting, told[1])


def cleaned(meetings, weighting):
    """What clean tells of a weighting whose names are tallies."""
    scale = SumScale(weighting)
    worths = {}
    totals = Totals(meetings.forks, scale, worths)
    for key in meetings.upwards():
        tally = meetings.forks.ends[key[0]]
        if tally is not None:
            worths[key] = scale.at_tally(tally, key[1], key[2])
            continue
        steps = [(choice, totals.at(number)) for choice, number in meetings.under[key]]
        choices = two_ways(steps)
        if choices is not None:
            return "drifts", drifting(weighting, [meetings.course_by(key, choice) for choice in choices])
        worths[key] = steps[0][1]
    return "clean", worths


def levelled(meetings, weighting, worths):
    """What level tells of a weighting that has these worths."""
    forks = meetings.forks
    scale = SumScale(weighting)
    numbers = {}
    begins = meetings.begins()
    for key in begins:
        tally = forks.ends[key[0]]
        if tally is not None:
            numbers[key] = scale.at_tally(tally, key[1], None)
            continue
        steps = [(book, scale.total([numbers[other] for other in below])) for book, below in forks.rows_for(key)]
        books = two_ways(steps)
        if books is not None:
            first, second = [meetings.course_by(begins[key], (book, book)) for book in books]
            return "begins", first, second
        numbers[key] = steps[0][1]
    return "level", worths, numbers


def two_ways(steps):
    """The ways of two steps (way, total) with different totals, the first step among them; None if there are none."""
    first, total = steps[0]
    others = [way for way, other in steps if other != total]
    return (first, others[0]) if others else None


def drifting(weighting, courses):
    """The first course for whose drift the sum is not 0."""
    return [course for course in courses if weighting(course.drift) != 0][0]
