"""Stairs: the one list of points that makes a lattice.

Their leads, the first places with a number other than 0, ascend strictly; the number at each lead, the pivot, is
positive; above a pivot stand numbers from 0 to the pivot less 1.
"""

from evenends.points import is_zero, multiple, plus, with_times


def stairs_of(points):
    """The stairs of the lattice that is made of points."""
    stairs = []
    for point in points:
        stairs = with_point(stairs, point)
    return stairs


def with_point(stairs, point):
    """The stairs of the lattice that is made of these stairs and a point."""
    rest = reduced_by(stairs, point)
    if is_zero(rest):
        return stairs
    steps = []
    for stair in stairs:
        upper, rest = parted(stair, rest)
        steps.append(upper)
    if not is_zero(rest):
        steps.append(rest)
    return tidied(steps)


def reduced_by(stairs, point):
    """The one point that differs by a point of the lattice, with numbers from 0 to the pivots less 1 at the leads."""
    rest = point
    for stair in stairs:
        lead = lead_of(stair)
        times = rest[lead] // stair[lead]
        if times != 0:
            rest = with_times(rest, stair, -times)
    return rest


def factors_by(stairs, point):
    """How often each of the stairs stands in a point of the lattice."""
    factors = []
    rest = point
    for stair in stairs:
        lead = lead_of(stair)
        factors.append(rest[lead] // stair[lead])
        rest = with_times(rest, stair, -factors[-1])
    return tuple(factors)


def lead_of(point):
    """The first place with a number other than 0; the number of places if there is none."""
    for place, number in enumerate(point):
        if number != 0:
            return place
    return len(point)


def parted(one, other):
    """Two points that make the same as these, one of which is not 0: the first one with the lesser lead."""
    lead = lead_of(one)
    if lead_of(other) < lead:
        return other, one
    if lead_of(other) > lead:
        return one, other
    divisor, times, more = bezout(one[lead], other[lead])
    upper = plus(multiple(one, times), multiple(other, more))
    lower = plus(multiple(other, one[lead] // divisor), multiple(one, -(other[lead] // divisor)))
    return upper, lower


def bezout(one, other):
    """A greatest common divisor of two integers, positive or negative, and how often it takes each of them."""
    last = (one, 1, 0)
    rest = (other, 0, 1)
    while rest[0] != 0:
        last, rest = rest, with_times(last, rest, -(last[0] // rest[0]))
    return last


def tidied(steps):
    """The stairs that make the same as points whose leads ascend strictly."""
    stairs = []
    for step in steps[::-1]:
        sign = -1 if step[lead_of(step)] < 0 else 1
        stairs = [reduced_by(stairs, multiple(step, sign)), *stairs]
    return stairs
