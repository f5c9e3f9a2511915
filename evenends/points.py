"""Points: vectors as tuples of integers, for names that are told beside them."""

from evenends.vectors import Vector


def point_of(vector, names):
    """The numbers of a vector at these names."""
    return tuple([vector[name] for name in names])


def vector_at(names, point):
    """The vector that has these numbers at these names."""
    numbers = dict(zip(names, point))
    return Vector(**numbers)


def zero_point(width):
    """The point of so many numbers 0."""
    return (0,) * width


def unit_point(width, place):
    """The point of so many numbers, all of them 0 but a 1 at this place."""
    return (0,) * place + (1,) + (0,) * (width - place - 1)


def is_zero(point):
    """Whether all numbers are 0."""
    return not any(point)


def plus(one, other):
    """The sum of two points."""
    return tuple([left + right for left, right in zip(one, other)])


def minus(one, other):
    """The difference of two points."""
    return tuple([left - right for left, right in zip(one, other)])


def multiple(point, times):
    """So many times a point."""
    return tuple([number * times for number in point])


def with_times(one, other, times):
    """One point and so many times the other one."""
    return tuple([left + right * times for left, right in zip(one, other)])


def largest(points):
    """The greatest number of points, without its sign; 0 if there are none."""
    return max([abs(number) for point in points for number in point], default=0)


def code_of(point, base):
    """One integer that stands for a point; the codes of points with numbers below half of the base are different.

    The code of a sum is the sum of the codes.
    """
    code = 0
    for number in point:
        code = code * base + number
    return code


def size_of(point):
    """The sum of the numbers without their signs."""
    return sum([abs(number) for number in point])
