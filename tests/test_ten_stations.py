"""Ten stations in a row with four books each and six kinds: what is told of them is what small steps find.

Nothing here uses what the package knows of outcomes: each choice at each station is gone through for each pair.
"""

import functools
import itertools

from evenends.drifts import drifts, errors_of
from evenends.formcheck import shows_form
from evenends.forms import form, form_paper
from evenends.lattices import Lattice
from evenends.nets import Net
from evenends.pairs import endless, met, pairs, shows_pairs
from evenends.sumcheck import shows_clean, shows_level
from evenends.sums import clean, level
from evenends.vectors import Vector
from evenends.weightings import Weighting
from tests.model import choices_of, outcome
from tests.samples import Case

TEN = Net.read("""door in sa a b c d
frail sa na>sb wa>ta
book p a>na:e b>wa:f c>na:c,wa:a d>na:b e>na:a,wa:c f>na:f,wa:d
book o a>na:b,wa:b b>na:a,wa:c c>na:f d>na:e,wa:e e>wa:f f>na:c
book n a>wa:c b>na:b c>na:a,wa:e d>na:f,wa:f e>na:e f>na:d,wa:b
book m a>na:d b>na:c,wa:e c>na:b,wa:f e>na:f,wa:b f>na:e,wa:c
frail sb nb>sc wb>tb
book p a>nb:b b>nb:a,wb:c c>nb:f,wb:d d>nb:e e>wb:f f>nb:c,wb:a
book o a>nb:c,wb:c b>nb:b,wb:d c>nb:a d>nb:f,wb:f e>wb:a f>nb:d
book n a>nb:d,wb:d b>nb:c c>nb:b,wb:f d>wb:a e>nb:f f>nb:e,wb:c
book m a>nb:a b>nb:f,wb:b c>nb:e,wb:c d>nb:d e>wb:e f>nb:b,wb:f
frail sc nc>sd wc>tc
book p a>nc:b b>nc:c,wc:c c>nc:d,wc:d d>nc:e e>nc:f,wc:f f>nc:a,wc:a
book o a>nc:f,wc:f b>nc:a,wc:a c>nc:b d>nc:c,wc:c e>nc:d,wc:d f>nc:e
book n a>nc:e,wc:e b>nc:d c>wc:a d>nc:b,wc:b e>nc:a f>nc:f,wc:d
book m b>nc:b,wc:d c>nc:a,wc:e d>nc:f e>nc:e,wc:a f>nc:d,wc:b
station sd nd>se wd>ta
book p a>nd:a b>nd:f,wd:b c>nd:e,wd:c d>nd:d e>nd:c,wd:e f>nd:b,wd:f
book o a>nd:c,wd:c b>nd:b,wd:d c>nd:a d>nd:f,wd:f e>nd:e,wd:a f>nd:d
book n a>nd:f,wd:f b>nd:a c>nd:b,wd:b d>nd:c,wd:c f>nd:e,wd:e
book m a>nd:f b>nd:a,wd:a c>nd:b,wd:b d>nd:c e>nd:d,wd:d f>nd:e,wd:e
frail se ne>sf we>tb
book p a>ne:a b>ne:f,we:b c>ne:e,we:c d>ne:d e>we:e f>ne:b,we:f
book o a>ne:c,we:c b>ne:b,we:d c>ne:a d>ne:f,we:f e>ne:e,we:a
book n a>ne:b,we:b b>ne:c c>ne:d,we:d d>ne:e,we:e e>ne:f f>ne:a,we:a
book m a>ne:c b>ne:b,we:d c>ne:a,we:e d>ne:f e>ne:e,we:a f>ne:d,we:b
frail sf nf>sg wf>tc
book p a>nf:c b>nf:d,wf:d c>nf:e,wf:e d>nf:f e>nf:a,wf:a f>nf:b,wf:b
book o a>nf:d,wf:d b>nf:c,wf:e c>nf:b d>nf:a,wf:a e>nf:f,wf:b f>nf:e
book n a>nf:d,wf:d b>nf:e c>nf:f,wf:f d>nf:a,wf:a e>nf:b f>nf:c,wf:c
book m a>nf:f b>nf:e,wf:a c>nf:d,wf:b d>nf:c e>nf:b,wf:d f>wf:e
station sg ng>sh wg>ta
book p a>ng:e b>ng:f,wg:f c>ng:a,wg:a d>ng:b e>ng:c,wg:c f>ng:d,wg:d
book o a>ng:b,wg:b b>ng:a,wg:c c>ng:f d>ng:e,wg:e e>ng:d,wg:f f>ng:c
book n a>ng:f,wg:f b>ng:a c>wg:b d>ng:c,wg:c e>ng:d f>ng:e,wg:e
book m a>ng:f b>ng:e,wg:a c>wg:b d>ng:c e>ng:b,wg:d f>ng:a,wg:e
frail sh nh>si wh>tb
book p b>nh:e,wh:e c>nh:f,wh:f d>nh:a e>nh:b,wh:b f>nh:c,wh:c
book o a>nh:a,wh:a b>nh:b,wh:b c>nh:c d>nh:d,wh:d e>nh:e,wh:e f>nh:f
book n a>nh:b,wh:b b>nh:a c>nh:f,wh:d d>nh:e,wh:e f>nh:c,wh:a
book m a>nh:b b>nh:c,wh:c c>nh:d,wh:d d>nh:e e>nh:f,wh:f f>nh:a,wh:a
frail si ni>sj wi>tc
book p a>ni:d b>ni:e,wi:e c>wi:f d>ni:a e>ni:b,wi:b f>ni:c,wi:c
book o a>ni:d,wi:d b>ni:c,wi:e c>ni:b d>ni:a,wi:a e>wi:b f>ni:e
book n a>ni:b,wi:b b>ni:a c>ni:f,wi:d d>ni:e,wi:e e>ni:d f>wi:a
book m a>ni:f b>ni:a,wi:a c>ni:b,wi:b d>ni:c e>ni:d,wi:d f>ni:e,wi:e
station sj wj>ta
book p b>wj:a c>wj:b d>wj:c e>wj:d f>wj:e
book o a>wj:c b>wj:d c>wj:e d>wj:f e>wj:a f>wj:b
book n b>wj:f c>wj:e d>wj:d e>wj:c f>wj:b
book m a>wj:f b>wj:e c>wj:d d>wj:c e>wj:b
tally ta a=3 b=1 c=-2 d=3 e=-2 f=3
tally tb a=-2 b=-1 c=-1 d=1 e=3 f=1
tally tc b=2 c=1 d=1 e=-3 f=-1""")

NO_KINDS = ("zz", "yy")


def with_books(net, many, stations):
    """The net in which some stations have only so many of their books."""
    for name in stations:
        for title in net[name].books[many:]:
            net = net.without_book(name, title)
    return net


def as_keepers(net, but):
    """The net in which all stations are keepers but one, by its place."""
    for place, name in enumerate(net.stations):
        net = net.as_keeper(name) if place != but else net
    return net


def only(place, many):
    """The net in which just one station has more than one book."""
    net = with_books(TEN, 1, [name for at, name in enumerate(TEN.stations) if at != place])
    return with_books(net, many, TEN.stations)


def variants():
    """The net itself, and nets in which fewer books can be exchanged or more is remembered."""
    yield TEN
    for place, many in ((8, 4), (9, 4), (4, 2), (5, 2), (7, 2)):
        yield only(place, many)
    for place in (0, 3, 8):
        yield as_keepers(with_books(TEN, 2, TEN.stations), place)
    yield as_keepers(only(1, 4), None)


class Steps:
    """What small steps find of a net."""

    def __init__(self, net):
        self.net = net
        self.kinds = {(door, kind): None for door in net.doors for kind in net[door].kinds}
        self.met = {(door, kind, kind): None for door, kind in self.kinds}
        left = list(self.met)
        while left:
            wire, *pair = left.pop()
            for below in self.outcomes(wire, tuple(pair)):
                for key in below:
                    if key not in self.met:
                        self.met[key] = None
                        left.append(key)
        self.bases = {}
        for key in self.met:
            self.base(key)

    def outcomes(self, wire, pair):
        """For each choice at the goal of a wire, the first books twice first, the keys of the outcome."""
        goal = self.net.goal(wire)
        if goal in self.net.tallies:
            return []
        station = self.net[goal]
        return [[(other, *below) for other, below in outcome(station, choice, pair).items()]
                for choice in choices_of(station)]

    def base(self, key):
        if key not in self.bases:
            wire, begin, end = key
            goal = self.net.goal(wire)
            if goal in self.net.tallies:
                self.bases[key] = Vector.of({goal: self.net[goal][begin] - self.net[goal][end]})
            else:
                self.bases[key] = sum(map(self.base, self.outcomes(wire, (begin, end))[0]), Vector())
        return self.bases[key]

    @functools.cached_property
    def lattice(self):
        """The drifts, by the fact of point 12."""
        found = {}
        for wire, *pair in self.met:
            base = self.base((wire, *pair))
            for below in self.outcomes(wire, tuple(pair)):
                vector = sum(map(self.base, below), Vector()) - base
                found[str(vector)] = vector
        return Lattice.of(list(found.values()))

    @functools.cached_property
    def begins(self):
        """For each wire and kind with which a begin comes, its begins reduced by the drifts: a dict from their texts."""
        told = {}
        for key in self.kinds:
            self.add_begins(told, key)
        return told

    def add_begins(self, told, key):
        if key in told:
            return
        wire, kind = key
        goal = self.net.goal(wire)
        sums = []
        if goal in self.net.tallies:
            sums.append(Vector.of({goal: self.net[goal][kind]}))
        else:
            for title in self.net[goal].books:
                row = list(self.net[goal].book(title).row(kind).items())
                for below in row:
                    self.add_begins(told, below)
                sums += [sum(some, Vector()) for some in itertools.product(*[told[below].values() for below in row])]
        reduced = [self.lattice.reduced(vector) for vector in sums]
        told[key] = {str(vector): vector for vector in reduced}


class TestTenStations(Case):
    @classmethod
    def setUpClass(cls):
        cls.steps = [Steps(net) for net in variants()]

    def test_pairs(self):
        for steps in self.steps:
            net, told = steps.net, pairs(steps.net)
            self.ascends(told, {wire: tuple(sorted([tuple(pair) for other, *pair in steps.met if other == wire],
                                                   key=lambda pair: (pair[0] or "", pair[1] or ""))) for wire in net.wires})
            self.assertIs(shows_pairs(net, told), True)
            expected = {(net.goal(wire), begin) for wire, begin, end in steps.met
                        if end is None and net.goal(wire) in net.stations and net[net.goal(wire)].KIND == "keeper"}
            self.assertEqual(endless(net), tuple(sorted(expected)))
            for wire in ("wj", "nd", "wb"):
                for pair in told[wire][::7]:
                    self.assertEqual(met(net, wire, *pair).pairs[wire], pair)

    def test_drifts(self):
        for steps in self.steps:
            self.assertEqual(drifts(steps.net), steps.lattice)
            self.assertTrue(steps.lattice.within(errors_of(steps.net)))
        self.assertEqual(str(drifts(TEN)), "ta=1 | tb=1 | tc=1")
        self.assertEqual(len({str(steps.lattice) for steps in self.steps}), 9)

    def test_forms(self):
        for steps in self.steps:
            lattice, net = steps.lattice, steps.net
            told, paper = form(net), form_paper(net)
            in_order = {key: tuple(sorted(row.values(), key=lambda vector: [vector[name] for name in net.tallies]))
                        for key, row in steps.begins.items()}
            self.assertEqual(paper[1], in_order)
            self.assertEqual(told.lattice, lattice)
            self.assertEqual(told.residues, {key: in_order[key] for key in steps.kinds})
            self.assertEqual({key: str(vector) for key, vector in paper[0].items()},
                             {key: str(lattice.reduced(steps.bases[key])) for key in steps.met})
            self.assertIs(shows_form(net, told, paper), True)

    def weightings(self, lattice):
        yield from (Weighting(), Weighting(2), Weighting(ta=1), Weighting(tb=2, tc=-1), Weighting(7, ta=3, tb=1))
        for vector in lattice.across("ta", "tb", "tc").basis:
            yield Weighting.of({name: vector[name] for name in vector.names})
            yield Weighting.of({name: vector[name] for name in vector.names}, 5)

    def test_sums(self):
        words = []
        for steps in self.steps:
            for weighting in self.weightings(steps.lattice):
                words += self.look(steps, weighting)
        self.assertEqual(set(words), {"clean", "drifts", "level", "begins"})

    def look(self, steps, weighting):
        net = steps.net
        one, other = clean(net, weighting), level(net, weighting)
        self.assertIs(shows_clean(net, weighting, one), True)
        self.assertIs(shows_level(net, weighting, other), True)
        is_clean = all(weighting(vector) == 0 for vector in steps.lattice.basis)
        self.assertEqual(one[0] == "clean", is_clean)
        if not is_clean:
            self.assertNotEqual(weighting(one[1].drift), 0)
            self.assertEqual(other, one)
            return one[0], other[0]
        self.assertEqual(one[1], {key: weighting(steps.bases[key]) for key in steps.met})
        sums = {key: {weighting(vector) for vector in row.values()} for key, row in steps.begins.items()}
        self.assertEqual(other[0] == "level", all(len(sums[key]) == 1 for key in steps.kinds))
        if other[0] == "level":
            self.assertEqual(other[1:], (one[1], {key: min(row) for key, row in sums.items()}))
        return one[0], other[0]

    def test_names_that_are_no_kinds(self):
        # What no book leads has the empty row, so a keeper leaves nothing and a tally counts 0.
        worths = clean(TEN, Weighting())[1]
        told = pairs(TEN)
        for wire in TEN.wires:
            more = {**worths, (wire, *NO_KINDS): 0}
            self.assertIs(shows_clean(TEN, Weighting(), ("clean", more)), True)
            self.assertIs(shows_clean(TEN, Weighting(), ("clean", {**more, (wire, *NO_KINDS): 1})), False)
            self.assertIs(shows_clean(TEN, Weighting(3), ("clean", {**more, (wire, *NO_KINDS): 3})), True)
            row = tuple(sorted([*told[wire], NO_KINDS], key=lambda pair: (pair[0] or "", pair[1] or "")))
            self.assertIs(shows_pairs(TEN, {**told, wire: row}), True)
