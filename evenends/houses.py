"""Houses: nets in use."""

from evenends.begins import begins_by
from evenends.deeds import is_deed
from evenends.errors import InvalidDeed, NoItem, TooMany, UnknownName
from evenends.names import in_order, is_integer
from evenends.parts import Tally
from evenends.states import State, same_state
from evenends.stations import Frail
from evenends.vectors import Vector


class Saved:
    """A state to which a house comes back, and what was saved before it."""

    def __init__(self, state, below):
        self.state = state
        self.below = below


class Trial:
    """A block at whose end the house is as it was when the block began."""

    def __init__(self, house):
        self._house = house
        self._saved = None

    def __enter__(self):
        house = self._house
        # A trial can be entered again inside of its own block, so it keeps more than one state.
        self._saved = Saved(same_state(house.net, house._state), self._saved)
        return house

    def __exit__(self, kind, value, trace):
        house = self._house
        house._state = self._saved.state
        self._saved = self._saved.below


class House:
    """A net in use: notices, items, books in force and tallies."""

    def __init__(self, net):
        self.net = net
        self._state = State(net)

    @property
    def books(self):
        """A new dict from stations to the names of the books in force."""
        return dict(self._state.in_force)

    @property
    def tallies(self):
        """The table."""
        table = self._state.table
        return Vector(**table)

    @property
    def open_items(self):
        """A new dict from the numbers of the open items to tuples (door, kind)."""
        return dict(self._state.opened)

    @property
    def is_at_rest(self):
        """Whether no notice is on a wire."""
        return not any(list(self._state.queues.values()))

    @property
    def meant(self):
        """The sum of the begins of all open items by the books in force."""
        items = list(self._state.opened.values())
        numbers = begins_by(self.net, self._state.in_force, items)
        return Vector(**numbers)

    @property
    def most_open(self):
        """The greatest number of items that may be open; None for any number."""
        return self._state.most

    @most_open.setter
    def most_open(self, most):
        self.set_most_open(most)

    def set_most_open(self, most):
        """Sets the greatest number of items that may be open."""
        state = self._state
        if most is not None and (not is_integer(most) or most < len(state.opened)):
            raise InvalidDeed("most")
        state.most = most

    def wire(self, name):
        """The tuple of the notices on a wire, the first one first."""
        if name not in self.net.wires:
            raise UnknownName(name)
        return tuple(self._state.queues[name])

    def known(self, station):
        """A new dict from the items for which a station remembers a row to the rows."""
        self._check_station(station)
        rows = in_order(self._state.remembered[station])
        return {number: dict(rows[number]) for number in rows}

    def open_item(self, door, kind):
        """Opens an item and returns its number."""
        if door not in self.net.doors:
            raise UnknownName(door)
        if kind not in self.net[door].kinds:
            raise InvalidDeed("kind")
        state = self._state
        if state.most is not None and len(state.opened) >= state.most:
            raise TooMany(state.most)
        number = state.upcoming
        state.upcoming = number + 1
        state.opened[number] = (door, kind)
        state.queues[door].append(("begin", number, kind))
        return number

    def close(self, number):
        """Closes an open item."""
        state = self._state
        if not is_integer(number) or number not in state.opened:
            raise NoItem(number)
        door, kind = state.opened.pop(number)
        state.queues[door].append(("end", number, kind))

    def move(self, wire):
        """Moves the first notice of a wire and returns it."""
        if not self.wire(wire):
            raise InvalidDeed("empty")
        notice = self._state.queues[wire].pop(0)
        goal = self.net[self.net.goal(wire)]
        if isinstance(goal, Tally):
            self._tell(goal, notice)
        else:
            self._send(goal, notice)
        return notice

    def settle(self):
        """Moves notices until all is at rest, and returns the number of moves."""
        moves = 0
        while not self.is_at_rest:
            for wire in self.net.wires:
                while self._state.queues[wire]:
                    self.move(wire)
                    moves += 1
        return moves

    def use(self, station, book):
        """Puts a book of a station in force."""
        self._check_station(station)
        if book not in self.net[station].books:
            raise UnknownName(book)
        self._state.in_force[station] = book

    def restart(self, station):
        """Restarts a station."""
        self._check_station(station)
        if isinstance(self.net[station], Frail):
            self._state.remembered[station] = {}

    def do(self, *deeds):
        """Carries out deeds, all or none, and returns the tuple of what their methods return."""
        if not all([is_deed(deed) for deed in deeds]):
            raise InvalidDeed("deed")
        # If a deed raises an error, only the other house has changed.
        other = self.twin()
        results = tuple([other._carry_out(deed) for deed in deeds])
        self._state = other._state
        return results

    def trial(self):
        """An object for a with block at whose end the house is as it was at its beginning."""
        return Trial(self)

    def tried(self, deed):
        """What a function returns for the house, which is afterwards as it was before."""
        with self.trial() as same:
            return deed(same)

    def twin(self):
        """Another house in the same state."""
        house = House(self.net)
        house._state = same_state(self.net, self._state)
        return house

    def __eq__(self, other):
        return isinstance(other, House) and self.net == other.net and self._state == other._state

    def _check_station(self, name):
        if name not in self.net.stations:
            raise UnknownName(name)

    def _carry_out(self, deed):
        """Does one deed and returns what its method returns."""
        word = deed[0]
        if word == "open":
            return self.open_item(deed[1], deed[2])
        if word == "close":
            return self.close(deed[1])
        if word == "move":
            return self.move(deed[1])
        if word == "book":
            return self.use(deed[1], deed[2])
        if word == "restart":
            return self.restart(deed[1])
        return self.settle()

    def _tell(self, tally, notice):
        """Lets a notice come to a tally."""
        word, _, kind = notice
        table = self._state.table
        if word == "begin":
            table[tally.name] += tally[kind]
        else:
            table[tally.name] -= tally[kind]

    def _send(self, station, notice):
        """Lets a notice come to a station, which sends it on."""
        word, number, _ = notice
        row = self._row_for(station, notice)
        for wire in row:
            self._state.queues[wire].append((word, number, row[wire]))

    def _row_for(self, station, notice):
        """The row by which a station sends a notice; what it remembers is kept up."""
        word, number, kind = notice
        rows = self._state.remembered[station.name]
        if word == "end" and number in rows:
            return rows.pop(number)
        row = station.book(self._state.in_force[station.name]).row(kind)
        if word == "begin" and station.KEEPS:
            rows[number] = row
        return row
