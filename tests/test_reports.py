"""Reports of nets and of sums."""

import random

from evenends.books import Book
from evenends.drifts import drifts
from evenends.errors import UnknownName
from evenends.nets import Net
from evenends.pairs import pairs
from evenends.parts import Door, Tally
from evenends.reports import report, sums_report
from evenends.stations import Station
from evenends.sums import clean, level
from evenends.weightings import Weighting
from tests.model import every_course, small_net
from tests.samples import FRAIL, KEPT, PLAIN, TWO, Case, spread, switch


class TestReport(Case):
    def test_samples(self):
        rows = ["d        j          1", "g        q          4", "h        b          3", "s        a          3"]
        self.alike(report(PLAIN), "\n".join(rows + ["drift a=1 b=-1"]))
        rows[3] = "s        a          1"
        self.assertEqual(report(net=KEPT), "\n".join(rows + ["drift b=1"]))
        rows[3] = "s        a          3"
        self.assertEqual(report(FRAIL), "\n".join(rows + ["drift a=1", "drift b=1"]))

    def test_long_names(self):
        net = Net(Door("abcdefgh", "ijklmnop", "k"),
                  Station("ijklmnop", {"qrstuvwx": "z"}, ("x", Book(k={"qrstuvwx": "k"}))), Tally("z", k=12))
        self.assertEqual(report(net), "abcdefgh ijklmnop   1\nqrstuvwx z          1")
        self.assertEqual(report(Net(Door("d", "t", "k"), Tally("t", k=1))), "d        t          1")

    def test_no_parts(self):
        for net in (Net(), Net(Tally("a", k=1)), Net(Station("s", {}, ("x", Book())))):
            self.alike(report(net), "")

    def test_many_pairs(self):
        net = spread(k=list(range(40)), l=list(range(30)))
        told = {wire: len(row) for wire, row in pairs(net).items()}
        self.assertEqual(report(net), f"d        s          2\nw        t        {told['w']:>3}")

    def test_wires_that_are_not_met(self):
        net = Net(Door("d", "s", "k"), Station("s", {"v": "t", "w": "t"}, ("x", Book(k={"w": "k"}))), Tally("t", k=1))
        self.assertEqual(report(net), "d        s          1\nv        t          0\nw        t          1")

    def test_small_nets(self):
        chance = random.Random(181)
        for _ in range(60):
            net = small_net(chance, 1000)
            met = {}
            for course in every_course(net):
                for wire, pair in course.pairs.items():
                    met.setdefault(wire, set()).add(pair)
            lines = [wire.ljust(8) + " " + net.goal(wire).ljust(8) + " " + str(len(met.get(wire, ()))).rjust(3)
                     for wire in net.wires]
            lines += ["drift " + str(vector) for vector in drifts(net).basis]
            self.assertEqual(report(net).split("\n"), lines)


class TestSumsReport(Case):
    def test_samples(self):
        self.alike(sums_report(KEPT, Weighting(a=1), Weighting(modulo=2, a=1, b=1)),
                   "a                              clean\na + b mod 2                    drifts")
        self.assertEqual(sums_report(PLAIN, Weighting(a=1, b=1)), "a + b                          level")
        self.assertEqual(sums_report(net=PLAIN), "")
        self.assertEqual(sums_report(Net()), "")
        self.assertEqual(sums_report(Net(), Weighting(), Weighting(2)),
                         "0                              level\n0 mod 2                        level")

    def test_long_weightings(self):
        names = ["abcdefgh", "bcdefghi", "cdefghij", "defghijk"]
        net = Net(*[Tally(name) for name in names])
        for many, text in ((1, "12345 abcdefgh"), (2, "12345 abcdefgh + 12345 bcdefghi")):
            line = sums_report(net, Weighting.of({name: 12345 for name in names[:many]}))
            self.assertEqual(line, text + " " * max(0, 30 - len(text)) + " level")
        for number, size in ((1234, 29), (12345, 30), (123456, 31), (1234567890, 35)):
            weighting = Weighting(abcdefgh=number, bcdefghi=-4321)
            self.assertEqual(len(str(weighting)), size)
            self.assertEqual(sums_report(net, weighting), str(weighting).ljust(30) + " level")
        weighting = Weighting.of({name: -999999 for name in names})
        self.assertEqual(sums_report(net, weighting), str(weighting) + " level")

    def test_words(self):
        chance = random.Random(182)
        seen = set()
        for _ in range(80):
            net = small_net(chance)
            weightings = [Weighting.of({name: chance.randint(-1, 1) for name in net.tallies}, chance.choice([0, 2, 3]))
                          for _ in range(3)]
            lines = sums_report(net, *weightings).split("\n")
            self.assertEqual(len(lines), 3)
            for line, weighting in zip(lines, weightings):
                word = ("level" if level(net, weighting)[0] == "level" else
                        "clean" if clean(net, weighting)[0] == "clean" else "drifts")
                self.assertEqual(line, str(weighting).ljust(30) + " " + word)
                seen.add(word)
        self.assertEqual(seen, {"level", "clean", "drifts"})

    def test_names(self):
        for weightings, name in (([Weighting(z=1, y=1)], "y"), ([Weighting(a=1), Weighting(d=1), Weighting(c=1)], "d"),
                                 ([Weighting(2, a=1, q=1)], "q")):
            self.refused(UnknownName, {"name": name}, sums_report, PLAIN, *weightings)
        self.assertEqual(sums_report(switch(2), Weighting(2, t=1, z=2)), "t mod 2                        level")
        self.refused(UnknownName, {"name": "a"}, sums_report, TWO.renamed({"a": "c"}), Weighting(a=1))
