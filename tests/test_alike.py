"""Nets that show the same tables, and tables that only one of two nets shows."""

import random

from evenends.alike import alike
from evenends.books import Book
from evenends.errors import NotComparable, TooMany
from evenends.explaincheck import shows_explained
from evenends.explained import explained
from evenends.forms import form
from evenends.lattices import Lattice
from evenends.nets import Net
from evenends.parts import Door, Tally
from evenends.stations import Station
from evenends.vectors import Vector
from tests.model import every_course, small_net
from tests.samples import FRAIL, KEPT, PLAIN, TWO, Case, spread, switch


class Seen:
    """What a net shows with one open item at most, by all its courses."""

    def __init__(self, net):
        courses = list(every_course(net))
        self.lattice = Lattice.of([course.drift for course in courses])
        self.begins = {}
        for course in courses:
            rest = self.lattice.reduced(course.begin)
            row = self.begins.setdefault((course.door, course.kind), [])
            if rest not in row:
                row.append(rest)

    def shows(self, items, table):
        rest = self.lattice.reduced(table)
        return rest in self.begins[items[0]] if items else not rest

    def shows_as(self, other):
        return (self.lattice == other.lattice and all(vector in row for key, row in self.begins.items()
                                                      for vector in other.begins[key])
                and all(vector in row for key, row in other.begins.items() for vector in self.begins[key]))


class TestAlike(Case):
    def look(self, one, other):
        """Compares what is told of two nets with all their courses, and returns the first word of it."""
        told = alike(one, other)
        self.assertEqual(told, alike(one, other))
        seen = [Seen(one), Seen(other)]
        self.assertIs(told == ("alike",), seen[0].shows_as(seen[1]))
        self.assertIs(told == ("alike",), form(one) == form(other))
        if told != ("alike",):
            self.check(told, (one, other), seen)
        return told[0]

    def check(self, told, nets, seen):
        word, items, table, side = told
        self.assertEqual((type(told), word, type(items), type(table)), (tuple, "unlike", tuple, Vector))
        self.alike(side, 1 if side else 0)
        self.assertLessEqual(len(items), 1)
        for place, word in ((side, "left"), (1 - side, "never")):
            self.assertIs(seen[place].shows(items, table), word == "left")
            answer = explained(nets[place], table, *items)
            self.assertEqual(answer[0], word)
            self.assertIs(shows_explained(nets[place], table, items, answer), True)

    def test_samples(self):
        nets = [PLAIN, KEPT, FRAIL, PLAIN.as_keeper("j"), PLAIN.as_frail("j"), PLAIN.without_book("j", "two"),
                PLAIN.without_book("j", "one"), KEPT.as_keeper("j"), PLAIN.with_book("j", "none", Book())]
        for one in nets:
            for other in nets:
                word = self.look(one, other)
                self.assertEqual(word == "alike", alike(one=other, other=one)[0] == "alike")
        self.assertEqual(alike(KEPT, KEPT.with_book("q", "more", Book(u={"s": "o"}))), ("alike",))

    def test_equal_nets(self):
        for net in (PLAIN, KEPT, FRAIL, TWO, Net(), Net(Tally("a")), spread(k=list(range(100)))):
            self.assertEqual(alike(net, net), ("alike",))
            self.assertEqual(alike(net, Net.read(str(net))), ("alike",))

    def test_drifts_that_differ(self):
        for one, other, table, side in ((2, 4, Vector(t=2), 0), (4, 2, Vector(t=2), 1), (4, 6, Vector(t=4), 0)):
            self.assertEqual(alike(switch(one), switch(other)), ("unlike", (), table, side))
        self.assertEqual(alike(switch(3), switch(-3)), ("alike",))

    def test_residues_that_differ(self):
        one, other = spread(k=[1, 2], l=[0]), spread(k=[1, 2], l=[0, 5])
        self.assertEqual(alike(one, other), ("unlike", (("d", "l"),), Vector(t=5), 1))
        self.assertEqual(alike(other, one), ("unlike", (("d", "l"),), Vector(t=5), 0))
        self.assertEqual(self.look(spread(k=[1, 2]), spread(k=[1, 3])), "unlike")
        self.assertEqual(self.look(spread(k=[1, 2]), spread(k=[2, 1])), "alike")

    def test_other_residues_with_other_drifts(self):
        # The same residues are something else beside other drifts; a table must be told that one net shows alone.
        one, other = switch(6), switch(3)
        self.assertEqual(form(one).residues, form(other).residues)
        self.assertEqual(alike(one, other), ("unlike", (), Vector(t=3), 1))

    def test_small_nets(self):
        chance = random.Random(121)
        words = []
        for _ in range(35):
            net = small_net(chance, 300)
            name = chance.choice(net.stations)
            title = chance.choice(net[name].books)
            book = net[name].book(title)
            changed = [net.as_keeper(name), net.as_frail(name), net.as_station(name), net.with_book(name, "zz", book),
                       net.with_book(name, "zz", Book())]
            if len(net[name].books) > 1:
                changed.append(net.without_book(name, title))
                changed.append(net.without_book(name, title).with_book(name, title, book))
            tally = net["ta"].amounts
            parts = [net[part] for part in (*net.doors, *net.stations, "tb", "tc")]
            changed += [Net.of([*parts, Tally.of("ta", {**tally, "k": tally.get("k", 0) + more})]) for more in (1, 2, -3)]
            words += [self.look(net, other) for other in changed]
        self.assertGreater(words.count("alike"), 40)
        self.assertGreater(words.count("unlike"), 40)

    def test_inner_names(self):
        chance = random.Random(122)
        for _ in range(40):
            net = small_net(chance)
            new = {name: name + "x" for name in (*net.stations, *net.wires) if name not in net.doors}
            self.assertEqual(alike(net, net.renamed(new)), ("alike",))
            name = chance.choice(net.stations)
            again = net.with_book(name, "zz", net[name].book(net[name].first))
            self.assertEqual(alike(net, again), ("alike",))

    def test_amounts_may_differ(self):
        one = Net(Door("d", "t", "k"), Tally("t", k=3))
        other = Net(Door("d", "t", "k"), Tally("t", k=4))
        self.assertEqual(self.look(one, other), "unlike")
        self.assertEqual(alike(one, other)[:2], ("unlike", (("d", "k"),)))
        self.assertEqual(alike(one, Net(Door("d", "t", "k"), Tally("t", k=3, l=8))), ("alike",))


class TestNotComparable(Case):
    def test_tallies(self):
        many = spread(k=list(range(101)))
        for one, other in ((PLAIN, Net()), (PLAIN, PLAIN.renamed({"a": "c"})), (Net(), Net(Tally("a"))),
                           (Net(Tally("a")), Net(Tally("b"))), (many, PLAIN), (PLAIN, many),
                           (Net(Door("d", "a", "k"), Tally("a")), Net(Door("e", "b", "l"), Tally("b")))):
            self.refused(NotComparable, {"reason": "tallies"}, alike, one, other)
            self.refused(NotComparable, {"reason": "tallies"}, alike, other=one, one=other)

    def test_doors(self):
        tally = Tally("t", k=1)
        door = Door("d", "t", "k")
        many = spread(k=list(range(101)))
        wider = spread(k=list(range(101)), l=[0])
        for one, other in ((Net(door, tally), Net(tally)), (Net(door, tally), Net(Door("e", "t", "k"), tally)),
                           (Net(door, tally), Net(Door("d", "t", "l"), tally)),
                           (Net(door, tally), Net(Door("d", "t", "k", "l"), tally)),
                           (Net(door, tally), Net(door, Door("e", "t", "k"), tally)), (many, wider),
                           (many, Net(tally)), (Net(tally), wider)):
            self.refused(NotComparable, {"reason": "doors"}, alike, one, other)
            self.refused(NotComparable, {"reason": "doors"}, alike, other, one)

    def test_too_many(self):
        many, few = spread(k=list(range(101)), l=[0]), spread(k=[0], l=[0])
        for one, other in ((many, few), (few, many), (many, many)):
            self.refused(TooMany, {"limit": 100}, alike, one, other)
        just = spread(k=list(range(100)), l=[0])
        self.assertEqual(alike(just, few)[0], "unlike")

    def test_goals_may_differ(self):
        one = Net(Door("d", "s", "k"), Station("s", {"w": "t"}, ("x", Book(k={"w": "k"}))), Tally("t", k=1))
        other = Net(Door("d", "t", "k"), Tally("t", k=1))
        self.assertEqual(alike(one, other), ("alike",))
