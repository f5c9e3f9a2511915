"""Nets of doors, stations and tallies."""

from evenends.books import Book
from evenends.errors import InvalidNet, UnknownName
from evenends.names import is_name
from evenends.nettexts import net_text, read_parts
from evenends.parts import Door, Tally
from evenends.stations import Frail, Keeper, Station, named_books, station_of
from evenends.wiring import check_parts, goals_of, kinds_of, names_of, starts_of


class Net:
    """Doors, stations and tallies, and the wires between them."""

    def __init__(self, *parts):
        check_parts(parts)
        self._parts = {part.name: part for part in parts}
        self._goals = goals_of(parts)
        self._starts = starts_of(parts)
        self._doors = tuple(sorted([part.name for part in parts if isinstance(part, Door)]))
        self._stations = tuple(sorted([part.name for part in parts if isinstance(part, Station)]))
        self._tallies = tuple(sorted([part.name for part in parts if isinstance(part, Tally)]))
        self._wires = tuple(self._goals)
        self.kinds = tuple(sorted({kind for part in parts for kind in kinds_of(part)}))

    @classmethod
    def of(cls, parts):
        """The net with the parts of a list or tuple."""
        if not isinstance(parts, (list, tuple)):
            raise InvalidNet("part", None)
        return cls(*parts)

    @classmethod
    def read(cls, text):
        """The net with this text."""
        parts = read_parts(text)
        return cls(*parts)

    @property
    def doors(self):
        """The ascending tuple of the names of the doors."""
        return self._doors

    @property
    def stations(self):
        """The ascending tuple of the names of the stations."""
        return self._stations

    @property
    def tallies(self):
        """The ascending tuple of the names of the tallies."""
        return self._tallies

    @property
    def wires(self):
        """The ascending tuple of all wires, those of doors included."""
        return self._wires

    def __getitem__(self, at):
        if not isinstance(at, str) or at not in self._parts:
            raise UnknownName(at)
        return self._parts[at]

    def __iter__(self):
        raise TypeError("a net is not iterated over, but the names of its parts are")

    def __contains__(self, x):
        return isinstance(x, str) and x in self._parts

    def goal(self, wire):
        """The name of the station or tally to which a wire leads."""
        self._check_wire(wire)
        return self._goals[wire]

    def start(self, wire):
        """The name of the station that has a wire; None for the wire of a door."""
        self._check_wire(wire)
        return self._starts.get(wire)

    def with_book(self, station, name, book):
        """The net with one book more at a station, the last one."""
        old = self._station(station)
        # The new station refuses a wrong name or book with InvalidPart.
        return self._exchanged(old, old.KIND, [*named_books(old), (name, book)])

    def without_book(self, station, name):
        """The net without a book of a station."""
        old = self._station(station)
        if name not in old.books:
            raise UnknownName(name)
        # The new station refuses to have no book with InvalidPart.
        return self._exchanged(old, old.KIND, [book for book in named_books(old) if book[0] != name])

    def as_station(self, station):
        """The net in which a station is a plain station."""
        return self._as_sort(station, Station.KIND)

    def as_keeper(self, station):
        """The net in which a station is a keeper."""
        return self._as_sort(station, Keeper.KIND)

    def as_frail(self, station):
        """The net in which a station is a frail keeper."""
        return self._as_sort(station, Frail.KIND)

    def renamed(self, names):
        """The net in which doors, stations, tallies and wires have the names that a dict tells."""
        old = names_of(list(self._parts.values()))
        unknown = [key for key in names if key not in old]
        if unknown:
            raise UnknownName(min(unknown, key=lambda key: repr(key)))
        if not all([is_name(name) for name in names.values()]):
            raise InvalidNet("name", None)
        if len({names.get(name, name) for name in old}) < len(old):
            raise InvalidNet("name", None)
        return Net.of([renamed_part(part, names) for part in self._parts.values()])

    def _check_wire(self, wire):
        if wire not in self.wires:
            raise UnknownName(wire)

    def _station(self, name):
        """The station with any value as its name."""
        if name not in self.stations:
            raise UnknownName(name)
        return self._parts[name]

    def _as_sort(self, station, kind):
        """The net in which a station is of the sort that a class value KIND tells."""
        old = self._station(station)
        return self._exchanged(old, kind, named_books(old))

    def _exchanged(self, old, kind, books):
        """The net in which a station is of this sort and has these books."""
        others = [part for part in self._parts.values() if part.name != old.name]
        return Net.of([*others, station_of(kind, old.name, old.wires, books)])

    def __eq__(self, other):
        return isinstance(other, Net) and self._parts == other._parts

    def __str__(self):
        return str(net_text(self))

    def __repr__(self):
        return f"Net({len(self.stations)} stations)"


def renamed_part(part, names):
    """The part with the names that a dict tells; other names stay."""
    name = names.get(part.name, part.name)
    if isinstance(part, Door):
        return Door.of(name, names.get(part.target, part.target), part.kinds)
    if isinstance(part, Tally):
        return Tally.of(name, part.amounts)
    wires = {names.get(wire, wire): names.get(goal, goal) for wire, goal in part.wires.items()}
    books = [(title, renamed_book(book, names)) for title, book in named_books(part)]
    return station_of(part.KIND, name, wires, books)


def renamed_book(book, names):
    """The book whose rows lead the wires with the names that a dict tells."""
    rows = {kind: book.row(kind) for kind in book.kinds}
    return Book.of({kind: {names.get(wire, wire): rows[kind][wire] for wire in rows[kind]} for kind in rows})
