"""Forms of nets, and the certificates for them."""

import random

from evenends.books import Book
from evenends.courses import Course
from evenends.drifts import drifts
from evenends.errors import TooMany
from evenends.formcheck import shows_form
from evenends.forms import Form, form, form_paper
from evenends.lattices import Lattice
from evenends.nets import Net
from evenends.pairs import pairs
from evenends.parts import Door, Tally
from evenends.stations import Keeper, Station
from evenends.vectors import Vector
from tests.model import every_course, small_net
from tests.samples import FRAIL, KEPT, ODD, PLAIN, TWO, Case, switch


def in_order(net, vectors):
    """Each of the vectors once, in the order of the document."""
    told = {tuple(vector[name] for name in net.tallies): vector for vector in vectors}
    return tuple(told[key] for key in sorted(told))


def residues_one_by_one(net, lattice):
    found = {}
    for course in every_course(net):
        found.setdefault((course.door, course.kind), []).append(lattice.reduced(course.begin))
    return {key: in_order(net, found[key]) for key in sorted(found)}


def begins_at(net, wire, kind):
    """All vectors that a begin of a kind on a wire can add to the tallies, by the words of the document."""
    goal = net[net.goal(wire)]
    if net.goal(wire) in net.tallies:
        return [Vector.of({goal.name: goal[kind]})]
    told = []
    for name in goal.books:
        sums = [Vector()]
        for other, below in goal.book(name).row(kind).items():
            sums = [one + more for one in sums for more in begins_at(net, other, below)]
        told += sums
    return told


def fan(counts, keeper=True):
    """A net whose door has as many residues as the product of some numbers: a keeper leads to a station for each."""
    parts = [Door("d", "top", "k")]
    wires = {}
    sort = Keeper if keeper else Station
    for place, count in enumerate(counts):
        name, wire = "s" + "abcdefgh"[place], "w" + "abcdefgh"[place]
        wires[wire] = name
        out, tally = "u" + "abcdefgh"[place], "t" + "abcdefgh"[place]
        kinds = ["k" + "abcdefghijklm"[number] for number in range(count)]
        books = [("b" + kind, Book(k={out: kind})) for kind in kinds]
        parts += [sort(name, {out: tally}, *books),
                  Tally(tally, **{kind: number * 7 + 3 for number, kind in enumerate(kinds)})]
    return Net(Keeper("top", wires, ("only", Book(k={wire: "k" for wire in wires}))), *parts)


class TestForms(Case):
    def test_samples(self):
        for net, rest in ((PLAIN, (Vector(b=1),)), (KEPT, (Vector(), Vector(a=1))), (FRAIL, (Vector(),))):
            told = form(net)
            self.assertIs(type(told), Form)
            self.assertEqual(told.lattice, drifts(net))
            self.ascends(told.residues, {("d", "k"): rest})
        self.assertEqual(form(net=TWO).lattice, drifts(TWO))

    def test_small_nets(self):
        chance = random.Random(81)
        most = 0
        for _ in range(200):
            net = small_net(chance, 1500)
            lattice = drifts(net)
            told = form(net)
            self.assertEqual(told.lattice, lattice)
            self.ascends(told.residues, residues_one_by_one(net, lattice))
            most = max([most, *map(len, told.residues.values())])
        self.assertGreater(most, 5)

    def test_order(self):
        # By the lists of the numbers at all tallies, with 0 for the tallies at which a vector has none.
        books = [(name, Book(k={"ua": kind, "ub": other})) for name, kind, other in
                 (("p", "k", "l"), ("q", "m", "n"), ("r", "n", "k"), ("s", "l", "m"), ("t", "m", "k"))]
        net = Net(Door("d", "s", "k"), Keeper("s", {"ua": "a", "ub": "b"}, *books),
                  Tally("a", k=1, l=-5), Tally("b", k=2, l=-7, m=1))
        self.assertEqual([(vector["a"], vector["b"]) for vector in form(net).residues["d", "k"]],
                         [(-5, 1), (0, 0), (0, 2), (1, -7)])

    def test_nets_without_doors(self):
        for net in (Net(), Net(Tally("a", k=1)), Net(Station("s", {}, ("x", Book())))):
            told = form(net)
            self.assertEqual((told.lattice, told.residues), (Lattice(), {}))
            self.assertEqual(form_paper(net), ({}, {}, (), {}))
            self.assertIs(shows_form(net, told, form_paper(net)), True)

    def test_a_door_at_a_tally(self):
        net = Net(Door("d", "t", "l", "k"), Door("c", "t", "k"), Tally("t", k=7))
        self.ascends(form(net).residues, {("c", "k"): (Vector(t=7),), ("d", "k"): (Vector(t=7),),
                                          ("d", "l"): (Vector(),)})

    def test_equality(self):
        self.assertTrue(form(PLAIN) == form(Net.read(str(PLAIN))))
        self.assertFalse(form(PLAIN) != form(PLAIN))
        # Which books a station has, matters only for what is left.
        self.assertTrue(form(KEPT) == form(KEPT.with_book("q", "more", Book(u={"s": "o"}))))
        self.assertTrue(form(PLAIN.without_book("j", "two")) == form(KEPT.without_book("j", "two")))
        nets = [PLAIN, KEPT, FRAIL, TWO, PLAIN.as_keeper("j"), PLAIN.without_book("j", "two"), Net()]
        for one in nets:
            for other in nets:
                self.assertIs(form(one) == form(other), one is other)
        # Equal residues alone do not make equal forms, nor do equal drifts.
        one, other, third = switch(2), switch(3), switch(-3)
        self.assertEqual((form(one).residues, form(one).lattice == form(other).lattice), (form(other).residues, False))
        self.assertFalse(form(one) == form(other))
        self.assertTrue(form(other) == form(third))
        self.assertFalse(form(one.as_keeper("s")) == form(other.as_keeper("s")))
        for value in ODD + [form(PLAIN).lattice, form(PLAIN).residues]:
            self.assertFalse(form(PLAIN) == value)
            self.assertTrue(form(PLAIN) != value)

    def test_changed_nets(self):
        chance = random.Random(82)
        equal = 0
        for _ in range(60):
            net = small_net(chance, 300)
            name = chance.choice(net.stations)
            title = chance.choice(net[name].books)
            for other in (net.as_keeper(name), net.as_frail(name), net.as_station(name),
                          net.with_book(name, "zz", net[name].book(title)), net.with_book(name, "zz", Book())):
                same = drifts(net) == drifts(other) and (residues_one_by_one(net, drifts(net))
                                                         == residues_one_by_one(other, drifts(other)))
                self.assertIs(form(net) == form(other), same)
                equal += same
            self.assertTrue(form(net) == form(net.with_book(name, "zz", net[name].book(title))))
            new = {station: station + "x" for station in net.stations} | {
                wire: wire + "x" for wire in net.wires if wire not in net.doors}
            self.assertTrue(form(net) == form(net.renamed(new)))
        self.assertLess(equal, 60 * 5)

    def test_what_is_told_is_new(self):
        told = form(KEPT)
        told.residues.clear()
        self.assertEqual(told.residues, {("d", "k"): (Vector(), Vector(a=1))})
        paper = form_paper(KEPT)
        paper[0].clear()
        paper[1].clear()
        paper[3].clear()
        self.assertIs(shows_form(KEPT, told, form_paper(KEPT)), True)


class TestTooMany(Case):
    def test_just_a_hundred(self):
        for counts in ([10, 10], [4, 5, 5], [2, 2, 5, 5]):
            net = fan(counts)
            told = form(net)
            self.assertEqual(len(told.residues["d", "k"]), 100)
            paper = form_paper(net)
            self.assertEqual([len(row) for row in paper[3].values()], [100])
            self.assertIs(shows_form(net, told, paper), True)

    def test_beyond_a_hundred(self):
        for counts in ([11, 10], [3, 4, 9], [12, 9], [2, 2, 2, 13], [2] * 7):
            for function in (form, form_paper):
                self.refused(TooMany, {"limit": 100}, function, fan(counts))
                self.refused(TooMany, {"limit": 100}, function, net=fan(counts))

    def test_many_begins_with_few_residues(self):
        # Beside plain stations the begins differ by drifts.
        net = fan([12, 12], keeper=False).as_station("top")
        self.assertEqual(len(form(net).residues["d", "k"]), 1)

    def test_equal_sums_are_one_residue(self):
        net = fan([12, 12])
        amounts = {kind: number for number, kind in enumerate(net["ta"].amounts)}
        parts = [net[name] for name in ("d", "top")] + [Tally("ta", **amounts)]
        for name in ("sa", "sb"):
            books = [(book, net[name].book(book)) for book in net[name].books]
            parts.append(Keeper(name, {wire: "ta" for wire in net[name].wires}, *books))
        self.assertEqual([vector["ta"] for vector in form(Net.of(parts)).residues["d", "k"]], list(range(23)))

    def test_kinds_that_nobody_opens(self):
        # Residues count only where a begin comes.
        net = fan([11, 10])
        net = Net.of([*[net[name] for name in (*net.stations, *net.tallies)], Door("d", "top", "z")])
        self.assertEqual(form(net).residues, {("d", "z"): (Vector(),)})


class TestPapers(Case):
    def look(self, net):
        told, paper = form(net), form_paper(net)
        self.assertEqual((type(paper), len(paper)), (tuple, 4))
        worths, begins, closed, opened = paper
        met = {(wire, *pair) for wire, row in pairs(net).items() for pair in row}
        self.assertEqual(set(worths), met)
        self.assertEqual(set(begins), {(wire, begin) for wire, begin, end in met if begin is not None})
        for wire, kind in begins:
            vectors = [told.lattice.reduced(vector) for vector in begins_at(net, wire, kind)]
            self.alike(begins[wire, kind], in_order(net, vectors))
        for key in worths:
            self.assertIs(type(worths[key]), Vector)
            self.assertEqual(worths[key], told.lattice.reduced(worths[key]))
        self.assertEqual((type(closed), len(closed)), (tuple, told.lattice.rank))
        for made, vector in zip(closed, told.lattice.basis):
            self.assertEqual(sum((course.drift * times for times, course in made), Vector()), vector)
            self.assertTrue(all(type(times) is int and times >= 1 for times, course in made))
        self.assertEqual(sorted(opened), sorted(told.residues))
        for key in opened:
            self.assertIs(type(opened[key]), tuple)
            self.assertEqual([(course.net, course.door, course.kind) for course in opened[key]],
                             [(net, *key)] * len(opened[key]))
            self.assertEqual(tuple(told.lattice.reduced(course.begin) for course in opened[key]), told.residues[key])
        self.assertIs(shows_form(net, told, paper), True)

    def test_samples(self):
        for net in (PLAIN, KEPT, FRAIL, TWO, PLAIN.as_keeper("j"), KEPT.as_frail("j"), fan([3, 4]), fan([3, 4], False)):
            self.look(net)
        self.assertEqual(form_paper(net=KEPT)[3]["d", "k"][1], Course(KEPT, "d", "k"))

    def test_worths(self):
        worths = form_paper(PLAIN)[0]
        self.assertEqual({key: str(vector) for key, vector in worths.items()}, {
            ("d", "k", "k"): "0", ("g", "u", "u"): "0", ("g", "u", "v"): "b=1", ("g", "v", "u"): "b=-1",
            ("g", "v", "v"): "0", ("h", None, "o"): "b=-1", ("h", "o", None): "b=1", ("h", "o", "o"): "0",
            ("s", None, "o"): "b=-1", ("s", "o", None): "b=1", ("s", "o", "o"): "0"})

    def test_small_nets(self):
        chance = random.Random(83)
        for _ in range(120):
            self.look(small_net(chance))
