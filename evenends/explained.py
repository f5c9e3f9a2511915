"""Tables explained: which history leaves them, or that none does."""

from evenends.errors import TooMany
from evenends.items import MOST_SUMS, check_shown
from evenends.residues import sums_with
from evenends.shapes import Shape

MOST_DEEDS = 2000


def explained(net, table, *items):
    """Whether a net can show a table with just these open items at rest: courses, or a certificate that it cannot."""
    check_shown(net, table, items)
    shape = Shape(net)
    sums = sums_of_items(shape, items)
    wanted = shape.scale.worth(table)
    if wanted not in sums:
        return "never", shape.lattice.basis, shape.worths(), shape.begins_told()
    begins = tuple([shape.course_for(item, point) for item, point in sums[wanted]])
    rest = table
    for course in begins:
        rest = rest - course.begin
    return "left", begins, shape.maker.made(rest)


def sums_of_items(shape, items):
    """The sums of one residue of each item, as points, each with the residues of which it is made."""
    sums = {shape.scale.total([]): ()}
    for item in items:
        sums = sums_with(sums, item, list(shape.by_kind[item]), shape.scale, MOST_SUMS)
    return sums


def history(net, begins, closed):
    """A tuple of deeds after which a new house of a net shows what courses add up to, at rest."""
    check_length(begins, closed)
    deeds = []
    number = 0
    for times, course in closed:
        for _ in range(times):
            deeds.extend(course.story(number))
            number += 1
    for course in begins:
        deeds.extend(course.story(number, closes=False))
        number += 1
    return tuple(deeds)


def check_length(begins, closed):
    """Checks that the stories of all items do not have too many deeds."""
    # A course can be told more times than there are deeds in any story, so stories are counted before they are joined.
    length = sum([times * len(course.story()) for times, course in closed])
    length = length + sum([len(course.story(closes=False)) for course in begins])
    if length > MOST_DEEDS:
        raise TooMany(MOST_DEEDS)
