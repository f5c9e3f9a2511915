"""How errors are made of the drifts of courses and of the differences of their begins."""

from evenends.lattices import Lattice
from evenends.makers import Maker, enough_of
from evenends.points import unit_point, vector_at
from evenends.stairs import lead_of, stairs_of


class Faults:
    """Tells for errors of a net of which courses they are made."""

    def __init__(self, meetings):
        self._meetings = meetings
        self._places = meetings.net.tallies
        self._maker = Maker(meetings)
        self._begins = self._maker.bases.begin_courses()
        self._points = enough_of([*self._maker.points_taken(), *self._begins])

    def all_errors(self):
        """The lattice of the errors."""
        return Lattice.of([vector_at(self._places, point) for point in self._points])

    def apart(self, name, others):
        """What adds up to an error that is not 0 at a tally, but 0 at the others of a list: closed items, and begins.

        Closed items are tuples (times, course), begins are tuples (times, course, course).
        """
        places = [self._places.index(other) for other in [*others, name]]
        # Behind the numbers at the tallies stands how often each of the points was taken.
        counted = [(*[point[place] for place in places], *unit_point(len(self._points), at))
                   for at, point in enumerate(self._points)]
        steps = [stair for stair in stairs_of(counted) if lead_of(stair) == len(others)]
        closed = []
        begins = []
        for point, times in zip(self._points, steps[0][len(places):]):
            if point in self._begins:
                begins.extend(self._pairs_for(point, times))
            else:
                closed.extend(self._maker.courses_for(point, times))
        return tuple(closed), tuple(begins)

    def _pairs_for(self, point, times):
        """A list of tuples (times, course, course) that add up to so many times one of the points."""
        if times == 0:
            return []
        key, book = self._begins[point]
        first = self._meetings.net[self._meetings.net.goal(key[0])].first
        one, other = [self._meetings.course_by(key, (name, name)) for name in (book, first)]
        return [(times, one, other)] if times > 0 else [(-times, other, one)]
