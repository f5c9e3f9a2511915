"""How vectors are made of the drifts of courses."""

from evenends.bases import Bases
from evenends.lattices import Lattice
from evenends.points import is_zero, point_of, size_of, unit_point, vector_at, zero_point
from evenends.stairs import reduced_by, stairs_of, with_point


class Maker:
    """Tells for the vectors of the drifts of a net of which courses they are made."""

    def __init__(self, meetings):
        self._meetings = meetings
        self._places = meetings.net.tallies
        self.bases = Bases(meetings)
        self._courses = self.bases.drift_courses()
        self._points = enough_of(list(self._courses))
        # Behind the numbers at the tallies stands how often each of the points was taken.
        self._counted = stairs_of([(*point, *unit_point(len(self._points), at))
                                   for at, point in enumerate(self._points)])

    def all_drifts(self):
        """The lattice of the drifts."""
        return Lattice.of([vector_at(self._places, point) for point in self._points])

    def made(self, vector):
        """A tuple of tuples (times, course) that add up to a vector; None if it is not in the drifts."""
        if not all([name in self._places for name in vector.names]):
            return None
        width = len(self._places)
        rest = reduced_by(self._counted, (*point_of(vector, self._places), *zero_point(len(self._points))))
        if not is_zero(rest[:width]):
            return None
        told = []
        for point, taken in zip(self._points, rest[width:]):
            told.extend(self.courses_for(point, -taken))
        return tuple(told)

    def points_taken(self):
        """A list of points that make all drifts, each the drift of a course."""
        return list(self._points)

    def courses_for(self, point, times):
        """A list of tuples (times, course) that add up to so many times one of the points."""
        if times == 0:
            return []
        key, choice = self._courses[point]
        course = self._meetings.course_by(key, choice)
        if times > 0:
            return [(times, course)]
        return [(-times, other) for other in course.turned()]


def enough_of(points):
    """Some of the points that make the same lattice as all of them, rather the small ones."""
    stairs = []
    enough = []
    for point in sorted(points, key=size_of):
        if not is_zero(reduced_by(stairs, point)):
            stairs = with_point(stairs, point)
            enough.append(point)
    return enough
