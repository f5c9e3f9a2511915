"""Stations of the three sorts: plain ones, keepers and frail keepers."""

from evenends.books import Book
from evenends.errors import InvalidPart, UnknownName
from evenends.names import gives_names, in_order, is_name


class Station:
    """Sends notices on by its books."""

    KIND = "station"
    KEEPS = False
    FORGETS = (False,)

    def __init__(self, name, wires, *books):
        check_station(name, wires, books)
        self.name = name
        self._wires = in_order(wires)
        self._books = {book[0]: book[1] for book in books}

    @classmethod
    def of(cls, name, wires, books):
        """The station with the books of a list or tuple."""
        check_station(name, wires, books)
        return cls(name, wires, *books)

    @property
    def wires(self):
        """A new dict from its wires to their goals."""
        return dict(self._wires)

    @property
    def books(self):
        """The names of its books, in order."""
        return tuple(self._books)

    @property
    def first(self):
        """The name of its first book."""
        return self.books[0]

    def book(self, name):
        """The book with this name."""
        if name not in self.books:
            raise UnknownName(name)
        return self._books[name]

    def outcomes(self, begin, end):
        """For each choice, in order, its parts and the pairs on the wires."""
        for first in self.books:
            for second in self.books:
                for forgets in self.FORGETS:
                    yield first, second, forgets, self.outcome_by((first, second, forgets), begin, end)

    def outcome_by(self, choice, begin, end):
        """The outcome of the pair (begin, end) by a choice: a new dict from wires, ascending, to pairs."""
        first, second, forgets = choice
        row = self._books[first].row(begin)
        if self.KEEPS and not forgets and begin is not None and end is not None:
            return {wire: (row[wire], row[wire]) for wire in row}
        back = self._books[second].row(end)
        return {wire: (row.get(wire), back.get(wire)) for wire in sorted(set([*row, *back]))}

    def __eq__(self, other):
        # Dicts are equal in any order, but here the order of the books counts.
        return (isinstance(other, Station) and self.KIND == other.KIND and self.name == other.name
                and self._wires == other._wires and self.books == other.books and self._books == other._books)


class Keeper(Station):
    """A station that remembers by which row it sent a begin."""

    KIND = "keeper"
    KEEPS = True


class Frail(Keeper):
    """A keeper that forgets all its rows when it is restarted."""

    KIND = "frail"
    FORGETS = (False, True)


def check_station(name, wires, books):
    """Checks any values of which a station should be made."""
    if not is_name(name):
        raise InvalidPart("name")
    if not gives_names(wires):
        raise InvalidPart("wires")
    if not isinstance(books, (list, tuple)) or not books:
        raise InvalidPart("books")
    if not all([is_named_book(book) for book in books]) or len({book[0] for book in books}) < len(books):
        raise InvalidPart("books")


def is_named_book(value):
    """Whether any value is a tuple of a name and a Book."""
    return isinstance(value, tuple) and len(value) == 2 and is_name(value[0]) and isinstance(value[1], Book)


def station_of(kind, name, wires, books):
    """The station of the sort that a class value KIND tells."""
    if kind == Keeper.KIND:
        return Keeper.of(name, wires, books)
    if kind == Frail.KIND:
        return Frail.of(name, wires, books)
    return Station.of(name, wires, books)


def named_books(station):
    """The books of a station as a station is created with them: tuples (name, Book)."""
    return [(name, station.book(name)) for name in station.books]
