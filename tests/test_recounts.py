"""Recounts: which tallies are counted by hand, and what the others should show then."""

import fractions
import itertools
import random

from evenends.drifts import errors_of
from evenends.errors import InvalidCosts, InvalidCount, UnknownName
from evenends.houses import House
from evenends.lattices import Lattice
from evenends.nets import Net
from evenends.parts import Door, Tally
from evenends.recountcheck import shows_recount
from evenends.recounts import Recount, recount
from evenends.sumcheck import shows_level
from evenends.vectors import Vector
from tests.model import every_course, small_net
from tests.samples import FRAIL, KEPT, NO_NAMES, PLAIN, TWO, Case, spread, switch
from tests.test_at_rest import Leader

NETS = (PLAIN, KEPT, FRAIL, TWO, PLAIN.as_keeper("j"), Net())


def errors_one_by_one(net):
    """The errors by the words of the document: made of drifts and of differences of begins."""
    firsts, vectors = {}, []
    for course in every_course(net):
        first = firsts.setdefault((course.door, course.kind), course.begin)
        vectors += [course.drift, course.begin - first]
    return Lattice.of(vectors)


def rank(rows):
    """The rank of rows of integers, with fractions."""
    rows, found = [[fractions.Fraction(number) for number in row] for row in rows], 0
    for place in range(len(rows[0]) if rows else 0):
        step = next((row for row in rows[found:] if row[place]), None)
        if step is not None:
            rows.remove(step)
            rows.insert(found, step)
            for row in rows[found + 1:]:
                times = row[place] / step[place]
                row[:] = [one - times * other for one, other in zip(row, step)]
            found += 1
    return found


def tell_all(lattice, names):
    return rank([[vector[name] for name in names] for vector in lattice.basis]) == lattice.rank


def costs_of(net, chance, most=3):
    costs = {name: chance.randint(0, most) for name in net.tallies}
    order = list(costs)
    chance.shuffle(order)
    return {name: costs[name] for name in order}


class TestRecount(Case):
    def look(self, net, costs):
        told = recount(net, costs)
        self.assertIs(type(told), Recount)
        lattice = errors_one_by_one(net)
        self.assertEqual(errors_of(net), lattice)
        order = sorted(net.tallies, key=lambda name: (costs[name], name))
        before = [(name, order[:place]) for place, name in enumerate(order)]
        expected = [name for name, row in before if rank([[vector[one] for one in row + [name]]
                                                          for vector in lattice.basis])
                    > rank([[vector[one] for one in row] for vector in lattice.basis])]
        self.alike(told.counted, tuple(sorted(expected)))
        self.alike(told.cost, sum(costs[name] for name in expected))
        sets = [some for many in range(len(order) + 1) for some in itertools.combinations(net.tallies, many)
                if tell_all(lattice, some)]
        self.assertIn(told.counted, sets)
        self.assertEqual(told.cost, min(sum(costs[name] for name in some) for some in sets))
        self.check_levels(net, told)
        self.check_alone(net, told)
        self.assertIs(shows_recount(net, costs, (told.counted, told.levels, told.alone)), True)
        return told

    def check_levels(self, net, told):
        self.assertEqual(set(told.levels), set(net.tallies) - set(told.counted))
        self.assertEqual(list(told.levels), sorted(told.levels))
        for name, (weighting, worths, numbers) in told.levels.items():
            self.assertEqual((weighting.modulo, weighting.vector[name] > 0), (0, True))
            self.assertLessEqual(set(weighting.names), {name, *told.counted})
            self.assertFalse([k for k in range(2, 60) if all(weighting.vector[one] % k == 0 for one in weighting.names)])
            self.assertIs(shows_level(net, weighting, ("level", worths, numbers)), True)

    def check_alone(self, net, told):
        self.assertEqual(list(told.alone), list(told.counted))
        for name, (closed, begins) in told.alone.items():
            vectors = [course.drift * times for times, course in closed]
            vectors += [(one.begin - other.begin) * times for times, one, other in begins]
            vector = sum(vectors, Vector())
            self.assertNotEqual(vector[name], 0)
            self.assertEqual([vector[other] for other in told.counted if other != name], [0] * (len(told.counted) - 1))
            for times, one, other in begins:
                self.assertEqual((one.net, one.door, one.kind), (net, other.door, other.kind))
            self.assertTrue(all(type(part[0]) is int and part[0] >= 1 for part in closed + begins))

    def test_samples(self):
        chance = random.Random(151)
        for net in NETS:
            for _ in range(4):
                self.look(net, costs_of(net, chance))
        told = self.look(PLAIN, {"a": 3, "b": 1})
        self.assertEqual((told.counted, told.cost, str(told.levels["a"][0])), (("b",), 1, "a + b"))
        self.assertEqual(self.look(PLAIN, {"b": 3, "a": 1}).counted, ("a",))
        self.assertEqual(recount(net=KEPT, costs={"a": 3, "b": 1}).counted, ("a", "b"))

    def test_equal_costs(self):
        for cost in (0, 5, 999999):
            told = self.look(PLAIN, {"b": cost, "a": cost})
            self.assertEqual((told.counted, told.cost), (("a",), cost))

    def test_nothing_to_count(self):
        net = Net(Door("d", "t", "k"), Tally("t", k=1), Tally("u", k=2))
        told = self.look(net, {"t": 0, "u": 9})
        self.assertEqual((told.counted, told.cost, list(told.levels), told.alone), ((), 0, ["t", "u"], {}))
        told = self.look(Net(), {})
        self.assertEqual((told.counted, told.levels, told.alone), ((), {}, {}))

    def test_begins_that_differ(self):
        # A keeper forgets no begin, so nothing drifts, but what is open cannot be told.
        told = self.look(spread(k=[1, 4]), {"t": 3})
        self.assertEqual((told.counted, told.cost), (("t",), 3))
        closed, begins = told.alone["t"]
        self.assertEqual((closed, len(begins)), ((), 1))

    def test_small_nets(self):
        chance = random.Random(152)
        sizes = []
        for _ in range(120):
            net = small_net(chance, 1500)
            sizes.append(len(self.look(net, costs_of(net, chance, chance.choice([0, 1, 3, 999999]))).counted))
        self.assertEqual(set(sizes), {0, 1, 2, 3})

    def test_costs_are_kept(self):
        costs = {"a": 3, "b": 1}
        told = recount(PLAIN, costs)
        costs["a"] = 0
        costs.clear()
        self.assertEqual((told.counted, told.cost), (("b",), 1))
        self.assertEqual(told.right(Vector(a=5), {"b": 5}), Vector(b=5))

    def test_what_is_told_is_new(self):
        told = recount(PLAIN, {"a": 3, "b": 1})
        levels = told.levels
        levels["a"][1].clear()
        levels["a"][2].clear()
        levels.clear()
        told.alone.clear()
        self.assertEqual((list(told.levels), list(told.alone)), (["a"], ["b"]))
        self.assertIs(shows_recount(PLAIN, {"a": 3, "b": 1}, (told.counted, told.levels, told.alone)), True)
        self.assertIsNot(told.levels["a"][1], told.levels["a"][1])


class TestRight(Case):
    def test_samples(self):
        told = recount(PLAIN, {"a": 3, "b": 1})
        for table, count, right in (("a=5 b=-5", 0, "0"), ("a=1", 1, "b=1"), ("a=7 b=-4", 3, "b=3"), ("0", -2, "a=2 b=-2")):
            self.assertEqual(str(told.right(Vector.read(table), {"b": count})), right)
        self.assertEqual(told.right(table=Vector(a=1), counted={"b": 0}), Vector(a=1))
        far = 10 ** 50
        self.assertEqual(told.right(Vector(a=far, b=-far), {"b": 0}), Vector())

    def test_behind_stories(self):
        chance = random.Random(153)
        wrong = 0
        for net in [*NETS[:5], *[small_net(chance) for _ in range(60)]]:
            told = recount(net, costs_of(net, chance))
            leader = Leader(chance, net)
            for _ in range(4):
                for _ in range(chance.randint(1, 25)):
                    leader.step()
                leader.rest(chance.choice([0, 1, 2, 3]))
                wrong += self.look(chance, net, told, leader.house)
        self.assertGreater(wrong, 30)

    def look(self, chance, net, told, house):
        # What should be shown is told by any books, those in force or others.
        twin = house.twin()
        for name in net.stations:
            twin.use(name, chance.choice(net[name].books))
        for meant in (house.meant, twin.meant):
            counted = {name: meant[name] for name in reversed(told.counted)}
            self.assertEqual(told.right(house.tallies, counted), meant)
        near = {name: house.meant[name] + chance.choice([0, 0, 1, -2]) for name in told.counted}
        lattice = errors_of(net)
        places = [{name: vector[name] for name in told.counted} for vector in lattice.basis]
        shown = Lattice.of([Vector.of(place) for place in places])
        errors = Vector.of({name: house.tallies[name] - near[name] for name in told.counted})
        if errors in shown:
            right = told.right(house.tallies, near)
            self.assertIn(house.tallies - right, lattice)
            self.assertEqual({name: right[name] for name in told.counted}, near)
            return 0
        self.refused(InvalidCount, {"name": None}, told.right, house.tallies, near)
        return 1

    def test_no_such_errors(self):
        told = recount(switch(6), {"t": 0})
        for number in (1, 2, 5, -7):
            self.refused(InvalidCount, {"name": None}, told.right, Vector(t=9), {"t": 9 + number})
        for number in (0, 6, -12):
            self.assertEqual(told.right(Vector(t=9), {"t": 9 + number}), Vector(t=9 + number))

    def test_wrong_tables(self):
        told = recount(PLAIN, {"a": 3, "b": 1})
        for counted in ({"b": 0}, None, {}, {"a": 1}):
            for table, name in ((Vector(c=1), "c"), (Vector(q=1, d=2, a=1), "d"), (Vector(a=1, g=1), "g")):
                self.refused(UnknownName, {"name": name}, told.right, table, counted)

    def test_wrong_counts(self):
        told = recount(KEPT, {"a": 3, "b": 1})
        for value in NO_NAMES:
            if not isinstance(value, dict):
                self.refused(InvalidCount, {"name": None}, told.right, Vector(), value)
        for counted, name in (
                ({}, "a"), ({"a": 1}, "b"), ({"b": 1}, "a"), ({"a": True, "b": 1}, "a"), ({"a": 1, "b": None}, "b"),
                ({"a": "1", "b": None}, "a"), ({"c": 1}, "c"), ({"a": 1, "b": 2, "c": 3}, "c"),
                ({"z": 1, "c": 1, "a": None}, "c"), ({"a": 1, "b": 1, None: 1}, None), ({1: 1, "q": 1}, "q"),
                ({True: 1, ("a",): 2, "a": 1}, ("a",)), ({"b": [], "a": 1}, "b")):
            self.refused(InvalidCount, {"name": name}, told.right, Vector(a=1), counted)
        one = recount(PLAIN, {"a": 3, "b": 1})
        self.refused(InvalidCount, {"name": "a"}, one.right, Vector(), {"a": 0, "b": 0})


class TestCosts(Case):
    def refuses(self, name, net, costs):
        self.refused(InvalidCosts, {"name": name}, recount, net, costs)
        for thing in (None, (), ((), {}, {}), "recount"):
            self.refused(InvalidCosts, {"name": name}, shows_recount, net, costs, thing)

    def test_no_dicts(self):
        for value in NO_NAMES + [[("a", 1), ("b", 1)], ("a", "b")]:
            if not isinstance(value, dict):
                self.refuses(None, PLAIN, value)

    def test_keys(self):
        for costs, name in (
                ({"a": 1, "b": 1, "c": 1}, "c"), ({"c": 1}, "c"), ({"d": 1, "q": 1, "a": None}, "d"),
                ({"a": 1, "b": 1, None: 1}, None), ({"z": 1, 7: 1}, "z"), ({7: 1, 10: 1}, 10), ({("a",): 1, "x": 2}, "x"),
                ({True: 1, False: 0}, False), ({"": 1, "A": 1}, ""), ({"self": 1, "a": -1}, "self")):
            self.refuses(name, PLAIN, costs)
        self.refuses("a", Net(), {"a": 1})

    def test_numbers(self):
        for costs, name in (
                ({}, "a"), ({"a": 1}, "b"), ({"b": 1}, "a"), ({"b": -1, "a": 1}, "b"), ({"b": -1, "a": True}, "a"),
                ({"a": None, "b": 0}, "a"), ({"a": 0, "b": "1"}, "b"), ({"a": 0, "b": []}, "b"), ({"b": False, "a": 0}, "b")):
            self.refuses(name, PLAIN, costs)
        house = House(PLAIN)
        self.refuses("a", PLAIN, {"b": 1, "a": house})
