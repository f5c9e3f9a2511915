"""Forks: stations by the rows of their books, so that each outcome of a pair is looked at once.

Rows have numbers, and an outcome is told by the numbers of two rows: the one of the begin and the one of the end. By a
kept outcome both are the row of the begin. Many choices have one outcome, and many pairs at a station do.
"""


class Fork:
    """A station: its rows by number, 0 for the empty one, and by which books a kind comes to them."""

    def __init__(self, station):
        self._wires = list(station.wires)
        self._first = station.first
        self._keeps = station.KEEPS
        self._forgets = True in station.FORGETS
        self.rows = [(None,) * len(self._wires)]
        # For each kind: the rows to which books lead it, each once, with the first such book.
        self._ways = {}
        self._read(station)

    def ways(self, kind):
        """A list of tuples (book, row number): each row to which books lead a kind or None, by the first such book."""
        return self._ways.get(kind, [(self._first, 0)])

    def steps(self, begin, end, start, width):
        """For each outcome of a pair: the first choice that has it, and its number; it counts from start on."""
        ends = self.ways(end)
        if not self._keeps or begin is None or end is None:
            return [((one, other, False), start + row * width + back)
                    for one, row in self.ways(begin) for other, back in ends]
        steps = []
        for one, row in self.ways(begin):
            steps.append(((one, self._first, False), start + row * width + row))
            if self._forgets:
                steps.extend([((one, other, True), start + row * width + back) for other, back in ends if back != row])
        return steps

    def pairs_of(self, row, back):
        """A list of the pairs at wires, as keys, that the numbers of two rows tell."""
        return [(wire, begin, end) for wire, begin, end in zip(self._wires, self.rows[row], self.rows[back])
                if begin is not None or end is not None]

    def kinds_of_row(self, row):
        """A list of the kinds at wires, as keys, that the number of a row tells."""
        return [(wire, kind) for wire, kind in zip(self._wires, self.rows[row]) if kind is not None]

    def _read(self, station):
        """Numbers the rows of the books."""
        numbers = {self.rows[0]: 0}
        books = {name: station.book(name) for name in station.books}
        for kind in sorted({kind for book in list(books.values()) for kind in book.kinds}):
            found = {}
            for name in books:
                row = books[name].row(kind)
                told = tuple([row.get(wire) for wire in self._wires])
                if told not in numbers:
                    numbers[told] = len(self.rows)
                    self.rows.append(told)
                if numbers[told] not in found:
                    found[numbers[told]] = name
            self._ways[kind] = [(found[number], number) for number in found]


class Forks:
    """All stations of a net. Outcomes have numbers that tell the station, too."""

    def __init__(self, net):
        self.net = net
        self._forks = [Fork(net[name]) for name in net.stations]
        self._width = max([len(fork.rows) for fork in self._forks], default=1)
        places = {name: place for place, name in enumerate(net.stations)}
        goals = {wire: net.goal(wire) for wire in net.wires}
        # For each wire: the place of the station to which it leads, or None; and the tally, or None.
        self._places = {wire: places.get(goals[wire]) for wire in goals}
        self.ends = {wire: net[goals[wire]] if self._places[wire] is None else None for wire in goals}
        self._below = {}

    def steps(self, key):
        """For each outcome of a pair at a wire: the first choice that has it, and its number. None at a tally.

        The choice of the first book twice and no forgetting stands first.
        """
        wire, begin, end = key
        place = self._places[wire]
        if place is None:
            return []
        return self._forks[place].steps(begin, end, place * self._width * self._width, self._width)

    def keys_of(self, number):
        """The list of the pairs at wires, as keys, of the outcome with a number."""
        if number not in self._below:
            rows, back = divmod(number, self._width)
            place, row = divmod(rows, self._width)
            self._below[number] = self._forks[place].pairs_of(row, back)
        return self._below[number]

    def rows_for(self, key):
        """For each row to which books lead a kind at a wire into a station: the first such book, and its keys."""
        wire, kind = key
        fork = self._forks[self._places[wire]]
        return [(book, fork.kinds_of_row(row)) for book, row in fork.ways(kind)]
