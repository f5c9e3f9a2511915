"""Lattices: their basis, what is in them, and what lies across them."""

import itertools
import math
import random
import time

from evenends.errors import InvalidVector, UnknownName
from evenends.lattices import Lattice
from evenends.vectors import Vector
from tests.samples import NO_NAMES, ODD, Case

NAMES = "abcdefgh"


def vector_by(chance, names, most):
    return Vector.of({name: chance.randint(-most, most) for name in names if chance.random() < 0.8})


def determinant(rows):
    if not rows:
        return 1
    return sum((-1) ** at * rows[0][at] * determinant([row[:at] + row[at + 1:] for row in rows[1:]])
               for at in range(len(rows)))


def divisor_of_minors(vectors, names, size):
    """The greatest common divisor of all minors of a size: it tells how dense a lattice is."""
    divisor = 0
    for some in itertools.combinations(vectors, size):
        for columns in itertools.combinations(names, size):
            divisor = math.gcd(divisor, determinant([[vector[name] for name in columns] for vector in some]))
    return divisor


def added_up(vectors, factors):
    return sum((vector * factor for vector, factor in zip(vectors, factors)), Vector())


class TestLattice(Case):
    def keeps_the_rules(self, lattice):
        """Checks the three rules by which there is only one basis."""
        self.assertIs(type(lattice.basis), tuple)
        leads = [vector.names[0] for vector in lattice.basis]
        self.assertEqual(leads, sorted(set(leads)))
        for vector, lead in zip(lattice.basis, leads):
            self.assertGreater(vector[lead], 0)
            for other in lattice.basis:
                if other is not vector:
                    self.assertTrue(0 <= other[lead] < vector[lead])
        self.alike(lattice.rank, len(leads))
        self.alike(lattice.names, tuple(sorted({name for vector in lattice.basis for name in vector.names})))
        self.assertIs(bool(lattice), bool(leads))

    def test_ordinary(self):
        lattice = Lattice(Vector(a=4, b=1), Vector(a=6))
        self.assertEqual(lattice.basis, (Vector(a=2, b=2), Vector(b=3)))
        self.assertEqual((lattice.rank, lattice.names, bool(lattice)), (2, ("a", "b"), True))
        for other in (Lattice.of([Vector(a=4, b=1), Vector(a=6)]), Lattice.of(vectors=(Vector(a=4, b=1), Vector(a=6))),
                      Lattice(Vector(a=6), Vector(), Vector(a=4, b=1), Vector(a=-2, b=1))):
            self.assertEqual((other, other.basis), (lattice, lattice.basis))

    def test_each_rule(self):
        self.assertEqual(Lattice(Vector(b=2), Vector(a=3)).basis, (Vector(a=3), Vector(b=2)))
        self.assertEqual(Lattice(Vector(a=-3, b=2)).basis, (Vector(a=3, b=-2),))
        self.assertEqual(Lattice(Vector(b=-4, a=0)).basis, (Vector(b=4),))
        self.assertEqual(Lattice(Vector(a=1, b=7), Vector(b=5)).basis, (Vector(a=1, b=2), Vector(b=5)))
        self.assertEqual(Lattice(Vector(a=1, b=-1), Vector(b=-5)).basis, (Vector(a=1, b=4), Vector(b=5)))
        self.assertEqual(Lattice(Vector(a=1, b=5), Vector(b=5)).basis, (Vector(a=1), Vector(b=5)))
        self.assertEqual(Lattice(Vector(a=1, c=-8), Vector(b=1, c=8), Vector(c=3)).basis,
                         (Vector(a=1, c=1), Vector(b=1, c=2), Vector(c=3)))

    def test_no_vectors(self):
        for lattice in (Lattice(), Lattice.zero(), Lattice.of([]), Lattice.of(()), Lattice(Vector()),
                        Lattice(Vector(), Vector(a=0))):
            self.assertEqual((lattice.basis, lattice.rank, lattice.names, bool(lattice)), ((), 0, (), False))
            self.assertEqual((str(lattice), lattice), ("0", Lattice.zero()))
            self.assertEqual((lattice.numbers(Vector()), lattice.numbers(Vector(a=1))), ((), None))
            self.assertEqual(lattice.reduced(Vector(a=-5)), Vector(a=-5))

    def test_dependent_vectors(self):
        one, other = Vector(a=2, b=3), Vector(b=1, c=-1)
        lattice = Lattice(one, other, one + other, one * 2 - other * 3, Vector(), -one)
        self.assertEqual((lattice, lattice.rank), (Lattice(one, other), 2))
        self.assertEqual(Lattice(Vector(a=6), Vector(a=10), Vector(a=15)).basis, (Vector(a=1),))

    def test_random_ones(self):
        chance = random.Random(41)
        for _ in range(250):
            names = NAMES[:chance.randint(1, 4)]
            vectors = [vector_by(chance, names, chance.choice([1, 3, 12])) for _ in range(chance.randint(0, 5))]
            lattice = Lattice(*vectors)
            self.keeps_the_rules(lattice)
            for vector in vectors:
                self.assertIn(vector, lattice)
            # As the vectors are in the lattice, it is made of them if it is no denser than they are.
            self.assertEqual(divisor_of_minors(vectors, names, lattice.rank),
                             divisor_of_minors(lattice.basis, names, lattice.rank))
            chance.shuffle(vectors)
            again = Lattice.of([*vectors, added_up(vectors, [3, -2, 1, 5, 0])])
            self.assertEqual((again, again.basis), (lattice, lattice.basis))

    def test_any_values(self):
        for value in NO_NAMES + [Lattice(), "a", [Vector(a=1)]]:
            if type(value) is not Vector:
                self.refused(InvalidVector, {}, Lattice, value)
                self.refused(InvalidVector, {}, Lattice, Vector(a=1), value)
                self.refused(InvalidVector, {}, Lattice.of, [Vector(a=1), value])
                self.refused(InvalidVector, {}, Lattice.of, (value,))
        for value in NO_NAMES + ["", Vector(a=1), {"a": 1}, Lattice()]:
            if not isinstance(value, (list, tuple)):
                self.refused(InvalidVector, {}, Lattice.of, value)

    def test_it_copies(self):
        vectors = [Vector(a=2)]
        lattice = Lattice.of(vectors)
        vectors.append(Vector(a=1))
        self.assertEqual(lattice, Lattice(Vector(a=2)))

    def test_texts(self):
        for lattice, text in ((Lattice(Vector(a=4, b=1), Vector(a=6)), "a=2 b=2 | b=3"), (Lattice(), "0"),
                              (Lattice(Vector(a=1, b=-1)), "a=1 b=-1")):
            self.assertEqual(str(lattice), text)
            if lattice:
                self.assertEqual(tuple(Vector.read(row) for row in text.split(" | ")), lattice.basis)


class TestElements(Case):
    def test_in(self):
        lattice = Lattice(Vector(a=4, b=1), Vector(a=6))
        for vector in (Vector(), Vector(a=4, b=1), Vector(a=-6), Vector(a=2, b=2), Vector(b=3), Vector(a=6 * 10 ** 59)):
            self.assertIs(vector in lattice, True)
        for vector in (Vector(a=2), Vector(b=1), Vector(a=1), Vector(c=3), Vector(a=4, b=1, c=1)):
            self.assertIs(vector in lattice, False)
        for value in NO_NAMES + ["a", lattice, [Vector()], (Vector(),)]:
            if type(value) is not Vector:
                self.assertIs(value in lattice, False)
                self.assertIs(value in Lattice(), False)

    def test_reduced(self):
        lattice = Lattice(Vector(a=4, b=1), Vector(a=6))
        for vector, rest in ((Vector(a=5, b=5), Vector(a=1, b=1)), (Vector(a=-1), Vector(a=1, b=2)),
                             (Vector(a=2, b=2), Vector()), (Vector(c=-9, b=4), Vector(c=-9, b=1)),
                             (Vector(), Vector()), (Vector(a=1, b=2), Vector(a=1, b=2))):
            self.assertEqual(lattice.reduced(vector), rest)
            self.assertEqual(lattice.reduced(vector=rest), rest)

    def test_numbers(self):
        lattice = Lattice(Vector(a=4, b=1), Vector(a=6))
        self.alike(lattice.numbers(Vector(a=4, b=1)), (2, -1))
        self.assertEqual(lattice.numbers(vector=Vector()), (0, 0))
        for vector in (Vector(a=1), Vector(b=1), Vector(c=1), Vector(a=4, b=1, c=1)):
            self.assertIsNone(lattice.numbers(vector))

    def test_random_ones(self):
        chance = random.Random(42)
        for _ in range(200):
            names = NAMES[:chance.randint(1, 4)]
            lattice = Lattice(*[vector_by(chance, names, 6) for _ in range(chance.randint(0, 4))])
            leads = [vector.names[0] for vector in lattice.basis]
            for _ in range(10):
                factors = tuple(chance.choice([0, 1, -1, 7, -10 ** 40]) for _ in leads)
                inside = added_up(lattice.basis, factors)
                self.assertIn(inside, lattice)
                self.assertEqual(lattice.numbers(inside), factors)
                vector = vector_by(chance, names + "z", 20)
                rest = lattice.reduced(vector)
                self.assertIn(vector - rest, lattice)
                self.assertEqual(lattice.reduced(vector + inside), rest)
                for basis_vector, lead in zip(lattice.basis, leads):
                    self.assertTrue(0 <= rest[lead] < basis_vector[lead])
                self.assertIs(vector in lattice, rest == Vector())
                self.assertEqual(lattice.numbers(vector) is None, rest != Vector())


class TestTwoLattices(Case):
    def test_together(self):
        one, other = Lattice(Vector(a=4)), Lattice(Vector(a=6), Vector(b=2, c=1))
        self.assertEqual(one | other, Lattice(Vector(a=2), Vector(b=2, c=1)))
        self.assertEqual(other | one, one | other)
        self.assertEqual((one | Lattice(), Lattice() | one, Lattice() | Lattice()), (one, one, Lattice()))
        self.assertEqual((one, other), (Lattice(Vector(a=4)), Lattice(Vector(a=6), Vector(b=2, c=1))))

    def test_within(self):
        lattice = Lattice(Vector(a=4, b=1), Vector(a=6))
        for one, other, told in ((Lattice(Vector(b=9)), lattice, True), (lattice, lattice, True),
                                 (lattice, Lattice(Vector(b=9)), False), (Lattice(), lattice, True),
                                 (Lattice(), Lattice(), True), (lattice, Lattice(), False),
                                 (Lattice(Vector(a=2)), Lattice(Vector(a=4)), False),
                                 (Lattice(Vector(a=4)), Lattice(Vector(a=2)), True),
                                 (Lattice(Vector(b=3), Vector(c=1)), lattice, False)):
            self.assertIs(one.within(other), told)
            self.assertIs(one.within(other=other), told)

    def test_random_ones(self):
        chance = random.Random(43)
        for _ in range(150):
            rows = [[vector_by(chance, "abc", 4) for _ in range(chance.randint(0, 3))] for _ in range(2)]
            one, other = Lattice.of(rows[0]), Lattice.of(rows[1])
            both = one | other
            self.assertEqual(both, Lattice(*rows[0], *rows[1]))
            self.assertTrue(one.within(both) and other.within(both))
            self.assertIs(one.within(other), all(vector in other for vector in rows[0]))
            self.assertIs(one == other, one.within(other) and other.within(one))

    def test_equality(self):
        one, other = [Vector(a=1, b=1), Vector(b=2)], [Vector(a=1, b=3), Vector(a=2, b=4), Vector(b=2)]
        self.assertTrue(Lattice(*one) == Lattice(*other))
        for other in [Lattice(Vector(a=2)), Lattice(Vector(b=1)), Lattice(), Lattice(Vector(a=1), Vector(b=1)),
                      Vector(a=1), (Vector(a=1),)] + ODD:
            self.assertFalse(Lattice(Vector(a=1)) == other)
            self.assertTrue(Lattice(Vector(a=1)) != other)


class TestAcross(Case):
    def test_ordinary(self):
        lattice = Lattice(Vector(a=2, b=4))
        self.assertEqual(lattice.across("a", "b", "c").basis, (Vector(a=2, b=-1), Vector(c=1)))
        self.assertEqual(lattice.across("c", "b", "a", "c"), lattice.across("a", "b", "c"))
        self.assertEqual(lattice.across("a", "b"), Lattice(Vector(a=2, b=-1)))
        self.assertEqual(lattice.across("a"), Lattice())
        self.assertEqual(lattice.across("c", "d"), Lattice(Vector(c=1), Vector(d=1)))
        self.assertEqual(lattice.across(), Lattice.zero())
        self.assertEqual(Lattice().across("b", "a"), Lattice(Vector(a=1), Vector(b=1)))
        self.assertEqual(Lattice().across(), Lattice())

    def test_names_twice(self):
        lattice = Lattice(Vector(a=2, b=4), Vector(b=3, c=1))
        for names in (("a", "a", "b", "c"), ("c", "b", "a", "c", "b"), ("c", "c", "c", "a", "b")):
            self.assertEqual(lattice.across(*names), lattice.across("a", "b", "c"))

    def test_no_names(self):
        lattice = Lattice(Vector(a=2, b=4))
        for value in NO_NAMES + ["A"]:
            self.refused(UnknownName, {"name": value}, lattice.across, value)
            self.refused(UnknownName, {"name": value}, lattice.across, "a", value, "B", None)
            self.refused(UnknownName, {"name": value}, Lattice().across, "z", "a", value, "")

    def test_random_ones(self):
        chance = random.Random(44)
        for _ in range(150):
            lattice = Lattice(*[vector_by(chance, "abcd", 5) for _ in range(chance.randint(0, 3))])
            names = chance.sample("abcde", chance.randint(0, 5))
            across = lattice.across(*names)
            for vector in across.basis:
                self.assertTrue(set(vector.names) <= set(names))
                self.assertEqual([vector.dot(other) for other in lattice.basis], [0] * lattice.rank)
            for numbers in itertools.product(range(-2, 3), repeat=min(len(names), 3)):
                vector = Vector.of(dict(zip(names, numbers)))
                self.assertIs(vector in across, all(vector.dot(other) == 0 for other in lattice.basis))
            # The rank is as great as it can be, and no multiple of a vector is in it without the vector.
            at = [[vector[name] for name in names] for vector in lattice.basis]
            narrow = Lattice(*[Vector.of(dict(zip(names, row))) for row in at])
            self.assertEqual(across.rank, len(names) - narrow.rank)
            self.assertEqual(divisor_of_minors(across.basis, names, across.rank), 1)


class TestBigNumbers(Case):
    def test_sixty_digits(self):
        chance = random.Random(45)
        many = [vector_by(chance, NAMES, 10 ** 60 - 1) for _ in range(30)]
        start = time.process_time()
        lattice = Lattice(*many)
        self.assertEqual((lattice.rank, lattice.across(*NAMES)), (8, Lattice()))
        for vector in many:
            self.assertEqual(added_up(lattice.basis, lattice.numbers(vector)), vector)
        self.assertLess(time.process_time() - start, 5)

    def test_few_vectors(self):
        chance = random.Random(46)
        for rank in range(1, 8):
            few = [vector_by(chance, NAMES, 10 ** 28) for _ in range(rank)]
            many = [added_up(few, [chance.randint(-10 ** 30, 10 ** 30) for _ in few]) for _ in range(30)]
            start = time.process_time()
            lattice = Lattice(*many)
            across = lattice.across(*NAMES, "z")
            self.assertLess(time.process_time() - start, 5)
            self.assertEqual((lattice.rank, across.rank), (rank, 9 - rank))
            self.assertTrue(lattice.within(Lattice(*few)))
            for vector in across.basis:
                self.assertEqual([vector.dot(other) for other in few], [0] * rank)
            for vector in many:
                self.assertIn(vector, lattice)
