"""Ten stations in a row with four books each: too many courses to go through, but an ordinary net."""

import random
import time

from evenends.alike import alike
from evenends.books import Book
from evenends.courses import Course
from evenends.desk import Desk
from evenends.drifts import clean_sums, drifts, errors_of, level_sums, made_of
from evenends.errors import TooMany
from evenends.explaincheck import shows_explained
from evenends.explained import explained
from evenends.formcheck import shows_form
from evenends.forms import form, form_paper
from evenends.nets import Net
from evenends.pairs import endless, met, pairs, shows_pairs
from evenends.parts import Door, Tally
from evenends.reports import report, sums_report
from evenends.stations import Frail, Keeper, Station
from evenends.plancheck import shows_plan
from evenends.plans import plan
from evenends.recountcheck import shows_recount
from evenends.recounts import recount
from evenends.sumcheck import shows_clean, shows_level
from evenends.sums import clean, level
from evenends.vectors import Vector
from evenends.weightings import Weighting
from tests.model import Told, choices_of
from tests.samples import Case

KINDS = "klmnop"
LETTERS = "abcdefghij"
SECONDS = 20


def long_row(sorts, seed, doors=3, amount=9, step=1):
    """Stations of these sorts, by turns, in a row; each has wires to tallies, too."""
    chance = random.Random(seed)
    parts = [Tally("t" + letter, **{kind: step * chance.randint(-amount, amount) for kind in KINDS})
             for letter in LETTERS[:8]]
    for place, letter in enumerate(LETTERS):
        wires = {"u" + letter: "t" + chance.choice(LETTERS[:8])}
        if place % 2:
            wires["v" + letter] = "t" + chance.choice(LETTERS[:8])
        if place + 1 < len(LETTERS):
            wires["w" + letter] = "s" + LETTERS[place + 1]
        shelf = [(title, Book.of({kind: {wire: chance.choice(KINDS) for wire in wires
                                         if wire[0] == "w" or chance.random() < 0.6} for kind in KINDS}))
                 for title in ("one", "two", "three", "four")]
        parts.append(sorts[place % len(sorts)]("s" + letter, wires, *shelf))
    return Net(*parts, *[Door("d" + letter, "s" + letter, *KINDS) for letter in LETTERS[:doors]])


NETS = [long_row([Station], 1), long_row([Station], 2, step=2), long_row([Keeper, Station], 3, amount=999999),
        long_row([Keeper], 4), long_row([Frail], 5, amount=999999), long_row([Station, Frail, Keeper], 6, step=3)]


class TestLongRows(Case):
    def setUp(self):
        self.start = time.process_time()

    def tearDown(self):
        self.assertLess(time.process_time() - self.start, SECONDS)

    def courses(self, net, count):
        chance = random.Random(111)
        for _ in range(count):
            door = chance.choice(net.doors)
            choices = {name: chance.choice(choices_of(net[name])) for name in net.stations}
            yield Told(net, door, chance.choice(KINDS), choices)

    def test_size(self):
        for net in NETS:
            self.assertEqual((len(net.doors), len(net.stations), len(net.wires), len(net.tallies), net.kinds),
                             (3, 10, 27, 8, tuple(KINDS)))

    def test_pairs(self):
        for net in NETS:
            told = pairs(net)
            self.assertIs(shows_pairs(net, told), True)
            for course in self.courses(net, 60):
                for wire, pair in course.pairs.items():
                    self.assertIn(pair, told[wire])
            for wire in ("da", "uj", "wi", "ue"):
                for pair in told[wire][:3]:
                    self.assertEqual(met(net, wire, *pair).pairs[wire], pair)
            self.assertIs(shows_pairs(net, {**told, "ui": told["ui"][1:]}), False)
            self.assertEqual(endless(net), tuple(sorted({(net.goal(wire), begin) for wire in told
                                                         for begin, end in told[wire] if end is None
                                                         and net.goal(wire) in net.stations
                                                         and net[net.goal(wire)].KIND == "keeper"})))

    def test_courses(self):
        for net in NETS:
            for told in self.courses(net, 20):
                course = Course.of(net, told.door, told.kind, told.choices)
                self.assertEqual((course.begin, course.drift), (told.begin, told.drift))
                self.assertEqual(sum((other.drift for other in course.turned()), Vector()), -told.drift)

    def test_sums(self):
        words = set()
        for net in NETS[1:5]:
            weightings = [Weighting(ta=1, tb=-2), Weighting(2, ta=1, tb=1, th=1), Weighting(3, tc=2), Weighting()]
            for lattice in (clean_sums(net), level_sums(net)):
                weightings += [Weighting.of({name: vector[name] for name in vector.names})
                               for vector in lattice.basis[:2]]
            for weighting in weightings:
                one, other = clean(net, weighting), level(net, weighting)
                words |= {one[0], other[0]}
                self.assertIs(shows_clean(net, weighting, one), True)
                self.assertIs(shows_level(net, weighting, other), True)
                for told in self.courses(net, 10):
                    if one[0] == "clean":
                        self.assertEqual(weighting(told.drift), 0)
                    if other[0] == "level":
                        self.assertEqual(weighting(told.begin), other[2][told.door, told.kind])
        self.assertEqual(words, {"clean", "level", "drifts", "begins"})

    def test_drifts(self):
        for net in NETS:
            lattice, errors = drifts(net), errors_of(net)
            self.assertTrue(lattice.within(errors))
            firsts = {}
            for told in self.courses(net, 60):
                self.assertIn(told.drift, lattice)
                first = firsts.setdefault((told.door, told.kind), told.begin)
                self.assertIn(told.begin - first, errors)
            for vector in lattice.basis:
                for number in (1, -10 ** 40):
                    made = made_of(net, vector * number)
                    self.assertTrue(all(times >= 1 for times, course in made))
                    self.assertEqual(sum((course.drift * times for times, course in made), Vector()), vector * number)

    def test_forms(self):
        shown = 0
        for net in NETS:
            try:
                told = form(net)
            except TooMany as error:
                self.assertEqual(error.limit, 100)
                self.refused(TooMany, {"limit": 100}, form_paper, net)
                continue
            paper = form_paper(net)
            self.assertIs(shows_form(net, told, paper), True)
            for course in self.courses(net, 30):
                self.assertIn(told.lattice.reduced(course.begin), told.residues[course.door, course.kind])
            shown += 1
        self.assertGreater(shown, 3)

    def test_explained(self):
        words = []
        for net in NETS:
            for many in (0, 1, 3, 12):
                some = list(self.courses(net, many))
                items = [(course.door, course.kind) for course in some]
                table = sum([course.begin for course in some], Vector())
                for course in self.courses(net, 3):
                    table = table + course.drift * 10 ** 40
                for more in (Vector(), Vector(tc=1)):
                    try:
                        told = explained(net, table + more, *items)
                    except TooMany as error:
                        words.append(error.limit)
                        continue
                    words.append(told[0])
                    self.assertTrue(told[0] == "left" or more)
                    self.assertIs(shows_explained(net, table + more, items, told), True)
        self.assertEqual(set(words), {"left", "never", 100})

    def test_alike(self):
        for net in (NETS[0], NETS[4], NETS[5]):
            self.assertEqual(alike(net, net.with_book("sa", "more", net["sa"].book("two"))), ("alike",))
            other = net.without_book("sj", "two").without_book("sj", "three").without_book("sj", "four")
            told = alike(net, other)
            if told != ("alike",):
                self.assertEqual(explained((net, other)[told[3]], told[2], *told[1])[0], "left")
                self.assertEqual(explained((other, net)[told[3]], told[2], *told[1])[0], "never")

    def test_recounts(self):
        chance = random.Random(112)
        for net in NETS:
            costs = {name: chance.randint(0, 5) for name in net.tallies}
            told = recount(net, costs)
            self.assertIs(shows_recount(net, costs, (told.counted, told.levels, told.alone)), True)
            some = list(self.courses(net, 5))
            meant = sum([course.begin for course in some], Vector())
            table = sum([course.drift for course in self.courses(net, 5)], meant)
            counted = {name: meant[name] for name in told.counted}
            self.assertEqual(told.right(table, counted), meant)

    def test_reports(self):
        for net in (NETS[0], NETS[3], NETS[5]):
            told = {wire: len(row) for wire, row in pairs(net).items()}
            lines = [f"{wire:8} {net.goal(wire):8} {told[wire]:3}" for wire in net.wires]
            lines += [f"drift {vector}" for vector in drifts(net).basis]
            self.assertEqual(report(net), "\n".join(lines))
            weightings = [Weighting(ta=1), Weighting(3, tb=1, tc=1), Weighting()]
            words = [line.split(" ")[-1] for line in sums_report(net, *weightings).split("\n")]
            self.assertEqual(words[2], "level")
            self.assertEqual([word == "drifts" for word in words],
                             [clean(net, weighting)[0] == "drifts" for weighting in weightings])

    def test_desk(self):
        chance = random.Random(113)
        for net in (NETS[1], NETS[5]):
            desk = Desk()
            self.assertEqual(desk("net " + str(net).replace("\n", " / ")), "ok")
            for _ in range(12):
                name = chance.choice(net.stations)
                desk(f"book {name} {chance.choice(net[name].books)}")
                desk(f"open {chance.choice(net.doors)} {chance.choice(KINDS)}")
                desk("settle")
            self.assertEqual(desk("could " + desk("table")), "left")
            for number in range(12):
                desk(f"close {number}")
            desk("settle")
            self.assertEqual(desk("could " + desk("table")), "left")
            self.assertEqual(desk("drifts"), str(drifts(net)))
            self.assertEqual(desk("count " + " ".join(f"{name}=1" for name in net.tallies)),
                             " ".join(recount(net, dict.fromkeys(net.tallies, 1)).counted))
            self.assertIsNone(desk.undo(49))
            self.assertEqual(desk("show").count(" / "), str(net).count("\n"))

    def test_plans(self):
        words = set()
        for seed in range(3):
            chance = random.Random(seed)
            net = NETS[seed % 2]
            small = Net(*[net[name] for name in net.doors + net.tallies], *[shorter(net[name]) for name in net.stations[:8]])
            costs = {name: chance.randint(0, 9) for name in small.stations[:6]}
            for weightings in ([Weighting(ta=1), Weighting(tb=1), Weighting(tc=1)], [Weighting(2, ta=1), Weighting(), Weighting(3)],
                               [Weighting(), Weighting(5), Weighting(7, tb=1)]):
                told = plan(small, costs, *weightings)
                words.add((told[0], len(told[-1]) > 0))
                self.assertIs(shows_plan(small, costs, weightings, told), True)
        self.assertIn(("none", True), words)


def shorter(station):
    """The station without its last book, and without a wire to the stations that are left out."""
    wires = {wire: goal for wire, goal in station.wires.items() if goal != "si"}
    books = []
    for title in station.books[:3]:
        book = station.book(title)
        books.append((title, Book.of({kind: {wire: below for wire, below in book.row(kind).items() if wire in wires}
                                      for kind in book.kinds})))
    return Station(station.name, wires, *books)
