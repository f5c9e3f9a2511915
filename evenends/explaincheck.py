"""Certificates of tables explained are checked here; no history is run, and nothing is searched."""

from evenends.courses import is_course_for
from evenends.formcheck import adds_up_to, are_tables, keep_rules, points_on, scale_for, sums_of
from evenends.items import MOST_SUMS, check_shown
from evenends.lattices import Lattice
from evenends.sumcheck import is_told
from evenends.vectors import Vector


def shows_explained(net, table, items, thing):
    """Whether any value shows that a net can show a table with these open items at rest, or that it cannot."""
    check_shown(net, table, items)
    if is_told(thing, "left", 3):
        return shows_left(net, table, items, thing)
    if is_told(thing, "never", 4):
        return shows_never(net, table, items, thing)
    return False


def shows_left(net, table, items, thing):
    """Whether courses for the items and closed ones are told that add up to a table."""
    _, begins, closed = thing
    if not isinstance(begins, tuple) or len(begins) != len(items):
        return False
    if not all([is_course_for(net, item, course) for item, course in zip(items, begins)]):
        return False
    rest = table
    for course in begins:
        rest = rest - course.begin
    return adds_up_to(net, closed, rest)


def shows_never(net, table, items, thing):
    """Whether a lattice, worths and begins are told by which no sum for the items is the same as a table."""
    _, basis, worths, begins = thing
    if not isinstance(basis, tuple) or not all([isinstance(vector, Vector) for vector in basis]):
        return False
    if not are_tables(net, worths, begins):
        return False
    scale = scale_for(net, Lattice.of(basis), worths, begins)
    points = {key: points_on(scale, begins[key]) for key in begins}
    if not keep_rules(net, worths, points, scale):
        return False
    sums = sums_of(scale, [points[item] for item in items], MOST_SUMS)
    return len(sums) <= MOST_SUMS and scale.worth(table) not in sums
