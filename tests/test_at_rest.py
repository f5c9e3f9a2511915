"""Houses led by random stories: what they show at rest is what drifts, forms and sums tell."""

import itertools
import random

from evenends.drifts import clean_sums, drifts, errors_of, level_sums
from evenends.forms import form, form_paper
from evenends.houses import House
from evenends.nets import Net
from evenends.pairs import pairs
from evenends.stations import Frail, Keeper, Station
from evenends.stories import read_story, story_text
from evenends.sums import level
from evenends.vectors import Vector
from evenends.weightings import Weighting
from tests.model import small_net
from tests.samples import FRAIL, KEPT, PLAIN, TWO, Case
from tests.test_turned import chain


class Told:
    """All that is told of a net."""

    def __init__(self, net):
        self.net = net
        self.form = form(net)
        self.clean = clean_sums(net)
        self.level = [Weighting.of({name: vector[name] for name in vector.names}) for vector in level_sums(net).basis]
        self.numbers = [level(net, weighting)[2] for weighting in self.level]
        self.errors = errors_of(net)


class Leader:
    """Leads a house by chance, and writes down which notices pass the wires."""

    def __init__(self, chance, net):
        self.chance, self.net = chance, net
        self.house = House(net)
        self.seen = {}

    def busy(self):
        return [wire for wire in self.net.wires if self.house.wire(wire)]

    def move(self, wire):
        word, number, kind = self.house.move(wire)
        self.seen.setdefault((wire, number), []).append((word, kind))

    def step(self):
        chance, net, house = self.chance, self.net, self.house
        way = chance.randrange(10)
        opened = list(house.open_items)
        if way < 2:
            door = chance.choice(net.doors)
            house.open_item(door, chance.choice(net[door].kinds))
        elif way < 4 and opened:
            house.close(chance.choice(opened))
        elif way < 7 and self.busy():
            self.move(chance.choice(self.busy()))
        elif way < 9:
            name = chance.choice(net.stations)
            house.use(name, chance.choice(net[name].books))
        else:
            house.restart(chance.choice(net.stations))

    def rest(self, most):
        """Closes some items and settles, so that at most so many are open."""
        opened = list(self.house.open_items)
        self.chance.shuffle(opened)
        for number in opened[most:]:
            self.house.close(number)
        while self.busy():
            self.move(self.chance.choice(self.busy()))


class TestAtRest(Case):
    def look(self, told, house):
        lattice = told.form.lattice
        rows = [told.form.residues[item] for item in house.open_items.values()]
        table = lattice.reduced(house.tallies)
        sums = [lattice.reduced(sum(some, Vector())) for some in itertools.product(*rows)]
        self.assertIn(table, sums)
        if not rows:
            self.assertIn(house.tallies, lattice)
            for vector in told.clean.basis:
                self.assertEqual(vector.dot(house.tallies), 0)
        for weighting, numbers in zip(told.level, told.numbers):
            self.assertEqual(weighting(house.tallies), sum(numbers[item] for item in house.open_items.values()))
        self.assertIn(house.tallies - house.meant, told.errors)

    def lead(self, chance, net, rounds, steps=25):
        told, leader = Told(net), Leader(chance, net)
        for _ in range(rounds):
            for _ in range(chance.randint(1, steps)):
                leader.step()
            leader.rest(chance.choice([0, 0, 1, 2, 3]))
            self.look(told, leader.house)

    def test_samples(self):
        chance = random.Random(101)
        for net in (PLAIN, KEPT, FRAIL, TWO, PLAIN.as_keeper("j"), KEPT.as_frail("j"), TWO.as_frail("q")):
            self.lead(chance, net, 60)

    def test_small_nets(self):
        chance = random.Random(102)
        for _ in range(80):
            net = small_net(chance)
            if max(map(len, form(net).residues.values())) <= 8:
                self.lead(chance, net, 12)

    def test_chains(self):
        chance = random.Random(103)
        for sorts in ([Station] * 4, [Frail] * 4, [Station, Keeper, Frail, Station]):
            self.lead(chance, chain(sorts, 2), 12, 60)

    def test_all_of_it_can_be_shown(self):
        # First the items of the certificate open and close, one after another, then some stay open.
        chance = random.Random(104)
        for _ in range(60):
            net = small_net(chance)
            told, (_, _, closed, opened) = form(net), form_paper(net)
            house, number, expected = House(net), 0, Vector()
            for vector, made in zip(told.lattice.basis, closed):
                if sum(times for times, course in made) <= 20:
                    expected = expected + vector
                    for course in [course for times, course in made for _ in range(times)]:
                        house.do(*course.story(number))
                        number += 1
            self.assertEqual((house.tallies, house.open_items), (expected, {}))
            for key in opened:
                for residue, course in list(zip(told.residues[key], opened[key]))[:3]:
                    house.do(*course.story(number, closes=False))
                    number += 1
                    expected = expected + residue
                    self.assertIn(house.tallies - expected, told.lattice)

    def test_pairs_of_histories(self):
        # What passes a wire for one item is a begin, an end, or both, in this order; as a pair it is met there.
        chance = random.Random(105)
        for _ in range(60):
            net = small_net(chance)
            told, leader = pairs(net), Leader(chance, net)
            for _ in range(150):
                leader.step()
            leader.rest(0)
            for (wire, number), notices in leader.seen.items():
                words = [word for word, kind in notices]
                self.assertIn(words, (["begin"], ["end"], ["begin", "end"]))
                kinds = dict(notices)
                self.assertIn((kinds.get("begin"), kinds.get("end")), told[wire])

    def test_texts_are_read_back(self):
        chance = random.Random(108)
        for _ in range(50):
            net = small_net(chance, amount=chance.choice([3, 999999]))
            told, (worths, begins, closed, opened) = form(net), form_paper(net)
            vectors = [*told.lattice.basis, *errors_of(net).basis, *clean_sums(net).basis, *worths.values()]
            for row in (*told.residues.values(), *begins.values()):
                vectors += row
            courses = [course for made in closed for times, course in made]
            for row in opened.values():
                courses += row
            vectors += [vector for course in courses for vector in (course.begin, course.drift)]
            for vector in vectors:
                self.assertEqual(Vector.read(str(vector)), vector)
            for course in courses:
                for story in (course.story(12), course.story(closes=False)):
                    self.assertEqual(read_story(story_text(story)), story)
            for vector in level_sums(net).basis:
                if max(abs(vector[name]) for name in vector.names) < 10 ** 6:
                    weighting = Weighting.of({name: vector[name] for name in vector.names})
                    self.assertEqual(Weighting.read(str(weighting)), weighting)

    def test_changed_nets(self):
        chance = random.Random(106)
        for _ in range(25):
            net = small_net(chance)
            name = chance.choice(net.stations)
            for other in (net.as_keeper(name), net.as_frail(name), net.with_book(name, "zz", net[name].book(
                    net[name].first)), net.renamed({name: "zz", "ta": "zta"})):
                if max(map(len, form(other).residues.values())) <= 6:
                    self.lead(chance, other, 4)

    def test_closed_items_leave_what_drifts_tell(self):
        chance = random.Random(107)
        for _ in range(40):
            net = small_net(chance)
            lattice, leader = drifts(net), Leader(chance, net)
            for _ in range(8):
                for _ in range(20):
                    leader.step()
                leader.rest(0)
                self.assertTrue(leader.house.is_at_rest)
                self.assertIn(leader.house.tallies, lattice)
        self.assertEqual(drifts(Net()), drifts(PLAIN.without_book("j", "two")))
