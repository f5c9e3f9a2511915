"""Lattices: all sums, with integers as factors, of some vectors."""

from evenends.errors import InvalidVector, UnknownName
from evenends.names import is_name
from evenends.points import point_of, unit_point, vector_at
from evenends.stairs import factors_by, lead_of, reduced_by, stairs_of
from evenends.vectors import Vector


class Lattice:
    """The set of all sums, with integers as factors, of some vectors."""

    def __init__(self, *vectors):
        check_vectors(vectors)
        self._names = tuple(sorted({name for vector in vectors for name in vector.names}))
        self._stairs = tuple(stairs_of([point_of(vector, self._names) for vector in vectors]))
        self._basis = tuple([vector_at(self._names, stair) for stair in self._stairs])

    @classmethod
    def of(cls, vectors):
        """The lattice made of the vectors of a list or tuple."""
        if not isinstance(vectors, (list, tuple)):
            raise InvalidVector()
        return cls(*vectors)

    @staticmethod
    def zero():
        """The lattice of the vector 0 alone."""
        return Lattice()

    @property
    def basis(self):
        """The tuple of the basis vectors."""
        return self._basis

    @property
    def rank(self):
        """How many basis vectors there are."""
        return len(self._basis)

    @property
    def names(self):
        """The ascending tuple of the names at which some vector is not 0."""
        return self._names

    def reduced(self, vector):
        """The reduced vector that differs from a vector by one of the lattice."""
        point = point_of(vector, self._names)
        rest = reduced_by(self._stairs, point)
        return vector - vector_at(self._names, point) + vector_at(self._names, rest)

    def numbers(self, vector):
        """The tuple of the integers with which the basis vectors add up to a vector; None if there are none."""
        if self.reduced(vector):
            return None
        return factors_by(self._stairs, point_of(vector, self._names))

    def within(self, other):
        """Whether all vectors of this lattice are in another one."""
        return all([vector in other for vector in self._basis])

    def across(self, *names):
        """The lattice of the vectors at these names alone whose product with each vector of this one is 0."""
        for value in names:
            if not is_name(value):
                raise UnknownName(value)
        places = tuple(sorted(set(names)))
        # Behind the products with the basis stands what they are the products of.
        points = [(*[vector[name] for vector in self._basis], *unit_point(len(places), at))
                  for at, name in enumerate(places)]
        stairs = [stair[self.rank:] for stair in stairs_of(points) if lead_of(stair) >= self.rank]
        return Lattice.of([vector_at(places, stair) for stair in stairs])

    def __bool__(self):
        return bool(self._basis)

    def __contains__(self, x):
        return isinstance(x, Vector) and not self.reduced(x)

    def __or__(self, other):
        return Lattice.of([*self._basis, *other._basis])

    def __eq__(self, other):
        return isinstance(other, Lattice) and self._basis == other._basis

    def __str__(self):
        return str(lattice_text(self._basis))


def check_vectors(vectors):
    """Checks any values of which a lattice should be made."""
    if not all([isinstance(vector, Vector) for vector in vectors]):
        raise InvalidVector()


def lattice_text(basis):
    """The text of a lattice with these basis vectors."""
    if not basis:
        return "0"
    return " | ".join([str(vector) for vector in basis])
