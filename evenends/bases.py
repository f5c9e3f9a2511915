"""What pairs and begins leave in the tallies of a net, as codes, and which drifts courses have."""

from evenends.codes import CodeScale
from evenends.totals import Totals


class Bases:
    """What each met pair leaves, if every station below has its first book twice and forgets nothing."""

    def __init__(self, meetings):
        self._meetings = meetings
        self._scale = CodeScale(meetings.net)
        self._codes = {}
        self._totals = Totals(meetings.forks, self._scale, self._codes)
        for key in meetings.upwards():
            tally = meetings.forks.ends[key[0]]
            if tally is None:
                _, number = meetings.under[key][0]
                self._codes[key] = self._totals.at(number)
            else:
                self._codes[key] = self._scale.at_tally(tally, key[1], key[2])

    def reduced_by_key(self, scale):
        """A dict from the met pairs to their bases on the scale of a lattice."""
        points = {code: scale.shortened(self._scale.point(code)) for code in self._codes.values()}
        return {key: points[self._codes[key]] for key in self._codes}

    def drift_courses(self):
        """Drifts of courses that make all drifts: a dict from each to a met pair and a choice that tell a course.

        The course goes to this pair, makes this choice at the station behind it, and has first books below.
        """
        aboves = {}
        courses = {}
        for key in self._meetings.links:
            # The course to the pair is the one that the key above and the choice there tell.
            link = self._meetings.links[key]
            drift = 0 if link is None else aboves[link[0]] + self._totals.at(link[2])
            aboves[key] = drift - self._codes[key]
            for choice, number in self._meetings.under[key]:
                drift = aboves[key] + self._totals.at(number)
                if drift not in courses:
                    courses[drift] = (key, choice)
        return {self._scale.point(drift): courses[drift] for drift in courses}

    def begin_courses(self):
        """Differences of begins at one station alone that make all: a dict from each to a met pair and a book.

        Less than by this book, something adds by the first one if courses go to this pair and have first books below.
        """
        forks = self._meetings.forks
        begins = self._meetings.begins()
        codes = {}
        courses = {}
        for key in begins:
            tally = forks.ends[key[0]]
            if tally is not None:
                codes[key] = self._scale.at_tally(tally, key[1], None)
                continue
            totals = [(book, sum([codes[other] for other in below])) for book, below in forks.rows_for(key)]
            _, codes[key] = totals[0]
            for book, total in totals:
                if total - codes[key] not in courses:
                    courses[total - codes[key]] = (begins[key], book)
        return {self._scale.point(code): courses[code] for code in courses}
