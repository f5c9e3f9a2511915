"""Drifts, errors, and what they are made of."""

import random

from evenends.books import Book
from evenends.courses import Course
from evenends.drifts import clean_sums, drifts, errors_of, level_sums, made_of
from evenends.lattices import Lattice
from evenends.nets import Net
from evenends.parts import Door, Tally
from evenends.stations import Keeper, Station
from evenends.stories import played
from evenends.sums import clean, level
from evenends.vectors import Vector
from evenends.weightings import Weighting
from tests.model import every_course, small_net
from tests.samples import FRAIL, KEPT, PLAIN, TWO, Case, switch


def drifts_one_by_one(net):
    return Lattice.of([course.drift for course in every_course(net)])


def errors_one_by_one(net):
    begins = {}
    for course in every_course(net):
        begins.setdefault((course.door, course.kind), []).append(course.begin)
    differences = [begin - row[0] for row in begins.values() for begin in row]
    return drifts_one_by_one(net) | Lattice.of(differences)


class TestDrifts(Case):
    def test_samples(self):
        for net, text in ((PLAIN, "a=1 b=-1"), (KEPT, "b=1"), (FRAIL, "a=1 | b=1"), (PLAIN.as_keeper("j"), "0"),
                          (Net(), "0"), (PLAIN.without_book("j", "two"), "0")):
            self.assertIs(type(drifts(net)), Lattice)
            self.assertEqual((str(drifts(net)), drifts(net)), (text, drifts_one_by_one(net)))
        self.assertEqual(drifts(net=TWO), drifts_one_by_one(TWO))

    def test_errors(self):
        for net, text in ((KEPT, "a=1 | b=1"), (PLAIN, "a=1 b=-1"), (PLAIN.as_keeper("j"), "a=1 b=-1"), (Net(), "0"),
                          (PLAIN.without_book("j", "two"), "0")):
            self.assertIs(type(errors_of(net)), Lattice)
            self.assertEqual((str(errors_of(net)), errors_of(net)), (text, errors_one_by_one(net)))
        self.assertEqual(errors_of(net=TWO), errors_one_by_one(TWO))

    def test_small_nets(self):
        chance = random.Random(71)
        ranks = {}
        for _ in range(200):
            net = small_net(chance, 1500)
            told = drifts(net)
            self.assertEqual((told, told.basis), (drifts_one_by_one(net), drifts_one_by_one(net).basis))
            self.assertEqual(errors_of(net), errors_one_by_one(net))
            self.assertTrue(told.within(errors_of(net)))
            ranks[told.rank] = ranks.get(told.rank, 0) + 1
        self.assertEqual(sorted(ranks), [0, 1, 2, 3])

    def test_courses_to_no_door(self):
        # Stations that no item comes to do not count.
        far = Net(Door("d", "t", "k"), *[switch(1)[name] for name in "st"])
        for net in (far, switch(1, "l")):
            self.assertEqual((drifts(net), errors_of(net)), (Lattice(), Lattice()))
        self.assertEqual((drifts(switch(3)), errors_of(switch(3))), (Lattice(Vector(t=3)), Lattice(Vector(t=3))))

    def test_unlike_kinds_at_a_keeper(self):
        # The begin of one kind and the end of another: the keeper sends both by the row of the begin.
        books = ("x", Book(k={"w": "k"})), ("y", Book(k={"w": "l"}))
        net = Net(Door("d", "s", "k"), Station("s", {"w": "q"}, *books),
                  Keeper("q", {"v": "t"}, ("x", Book(k={"v": "k"}, l={"v": "l"}))), Tally("t", k=1, l=5))
        self.assertEqual((drifts(net), errors_of(net)), (Lattice(), Lattice(Vector(t=4))))
        self.assertEqual(drifts(net.as_station("q")), Lattice(Vector(t=4)))

    def test_changed_nets(self):
        chance = random.Random(72)
        for _ in range(40):
            net = small_net(chance, 300)
            name = chance.choice(net.stations)
            for other in (net.as_station(name), net.as_keeper(name), net.as_frail(name)):
                self.assertEqual(drifts(other), drifts_one_by_one(other))
            new = {"ta": "tb", "tb": "ta", name: "zz", net.wires[0]: "zy"}
            renamed = net.renamed(new)
            told = [Vector.of({new.get(tally, tally): vector[tally] for tally in vector.names})
                    for vector in drifts(net).basis]
            self.assertEqual(drifts(renamed), Lattice.of(told))


class TestMadeOf(Case):
    def look(self, net, vector):
        """Checks what a vector is made of; returns how many tuples are told."""
        told = made_of(net, vector)
        self.assertIs(type(told), tuple)
        total = Vector()
        for part in told:
            self.assertEqual((type(part), len(part), type(part[0]), type(part[1])), (tuple, 2, int, Course))
            self.assertGreaterEqual(part[0], 1)
            self.assertEqual(part[1].net, net)
            total = total + part[1].drift * part[0]
        self.assertEqual(total, vector)
        return len(told)

    def test_samples(self):
        for net, vectors in ((PLAIN, [Vector(a=1, b=-1), Vector(a=-7, b=7)]), (KEPT, [Vector(b=3), Vector(b=-1)]),
                             (FRAIL, [Vector(a=1), Vector(a=-2, b=9)]), (TWO, list(drifts(TWO).basis))):
            for vector in vectors:
                self.assertGreater(self.look(net, vector), 0)
        self.assertEqual(sum(times for times, course in made_of(net=PLAIN, vector=Vector(a=5, b=-5))), 5)

    def test_zero(self):
        for net in (PLAIN, KEPT, FRAIL, TWO, Net(), PLAIN.as_keeper("j")):
            self.alike(made_of(net, Vector()), ())

    def test_others(self):
        for net, vectors in ((PLAIN, [Vector(a=1), Vector(b=1), Vector(a=1, b=1), Vector(a=1, b=-1, c=1), Vector(j=1)]),
                             (KEPT, [Vector(a=1), Vector(a=10 ** 60, b=1), Vector(z=1)]),
                             (Net(), [Vector(a=1)]), (PLAIN.as_keeper("j"), [Vector(a=1, b=-1)])):
            for vector in vectors:
                self.assertIsNone(made_of(net, vector))

    def test_great_multiples(self):
        for net in (PLAIN, KEPT, FRAIL, TWO):
            for vector in drifts(net).basis:
                for number in (10 ** 59, -10 ** 59, 999999):
                    self.look(net, vector * number)

    def test_small_nets(self):
        chance = random.Random(73)
        for _ in range(120):
            net = small_net(chance, amount=chance.choice([3, 50, 999999]))
            lattice = drifts(net)
            for _ in range(4):
                vector = Vector()
                for part in lattice.basis:
                    vector = vector + part * chance.choice([0, 1, -1, 6, -10 ** 30])
                self.look(net, vector)
                vector = vector + Vector(ta=chance.randint(-2, 2), tb=chance.randint(-1, 1))
                self.assertEqual(made_of(net, vector) is not None, vector in lattice)

    def test_stories_leave_it(self):
        chance = random.Random(74)
        played_ones = 0
        for _ in range(40):
            net = small_net(chance)
            for vector in drifts(net).basis:
                told = made_of(net, vector)
                courses = [course for times, course in told for _ in range(min(times, 50))]
                if len(courses) < 50:
                    deeds = [deed for number, course in enumerate(courses) for deed in course.story(number)]
                    self.assertEqual(played(net, deeds).tallies, vector)
                    played_ones += 1
        self.assertGreater(played_ones, 20)


class TestWeights(Case):
    def test_samples(self):
        self.assertEqual([str(clean_sums(net)) for net in (PLAIN, KEPT, FRAIL, Net())], ["a=1 b=1", "a=1", "0", "0"])
        self.assertEqual([str(level_sums(net)) for net in (PLAIN, KEPT, FRAIL, Net())], ["a=1 b=1", "0", "0", "0"])
        self.assertEqual(str(clean_sums(net=PLAIN.as_keeper("j"))), "a=1 | b=1")
        self.assertEqual(str(level_sums(net=PLAIN.as_keeper("j"))), "a=1 b=1")

    def test_small_nets(self):
        chance = random.Random(75)
        for _ in range(100):
            net = small_net(chance, 300)
            clean_ones, level_ones = clean_sums(net), level_sums(net)
            self.assertEqual(clean_ones, drifts_one_by_one(net).across(*net.tallies))
            self.assertEqual(level_ones, errors_one_by_one(net).across(*net.tallies))
            self.assertTrue(level_ones.within(clean_ones))
            for _ in range(8):
                weights = {name: chance.randint(-3, 3) for name in net.tallies}
                weighting, vector = Weighting.of(weights), Vector.of(weights)
                self.assertIs(clean(net, weighting)[0] == "clean", vector in clean_ones)
                self.assertIs(level(net, weighting)[0] == "level", vector in level_ones)
            for vector in clean_ones.basis:
                self.assertEqual(clean(net, Weighting.of({name: vector[name] for name in vector.names}))[0], "clean")
            for vector in level_ones.basis:
                self.assertEqual(level(net, Weighting.of({name: vector[name] for name in vector.names}))[0], "level")
