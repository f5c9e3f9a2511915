"""Which pairs are met at wires, and the tables that show it."""

import itertools
import random

from evenends.books import Book
from evenends.courses import Course
from evenends.errors import UnknownName
from evenends.nets import Net
from evenends.pairs import endless, met, pairs, shows_pairs
from evenends.parts import Door, Tally
from evenends.stations import Frail, Keeper, Station
from tests.model import KINDS, every_course, small_net
from tests.samples import FRAIL, KEPT, NO_NAMES, ODD, PLAIN, TWO, Case


def order(pair):
    return [part or "" for part in pair]


def met_one_by_one(net):
    """The pairs at all wires, from courses gone through one by one."""
    found = {wire: set() for wire in net.wires}
    for told in every_course(net):
        for wire, pair in told.pairs.items():
            found[wire].add(pair)
    return {wire: tuple(sorted(found[wire], key=order)) for wire in found}


class TestPairs(Case):
    def test_samples(self):
        self.ascends(pairs(PLAIN), {"d": (("k", "k"),), "g": (("u", "u"), ("u", "v"), ("v", "u"), ("v", "v")),
                                    "h": ((None, "o"), ("o", None), ("o", "o")),
                                    "s": ((None, "o"), ("o", None), ("o", "o"))})
        self.assertEqual(pairs(KEPT)["s"], (("o", "o"),))
        self.assertEqual(pairs(FRAIL)["s"], pairs(PLAIN)["s"])

    def test_small_nets(self):
        chance = random.Random(21)
        for _ in range(100):
            net = small_net(chance)
            told = pairs(net)
            self.ascends(told, met_one_by_one(net))
            self.assertIs(shows_pairs(net, told), True)

    def test_wires_without_pairs(self):
        net = Net(Door("d", "j", "k"), Station("j", {"g": "t"}, ("x", Book(l={"g": "k"}))),
                  Station("q", {"h": "t"}, ("x", Book(k={"h": "k"}))), Tally("t"))
        self.assertEqual(pairs(net), {"d": (("k", "k"),), "g": (), "h": ()})
        self.assertEqual(pairs(Net()), {})
        self.assertEqual(pairs(Net(Station("q", {}, ("x", Book())))), {})

    def test_two_doors(self):
        parts = [PLAIN[name] for name in ("d", "j", "q", "a", "b")]
        net = Net(*parts, Door("e", "q", "z", "u"), Door("f", "b", "o"))
        told = pairs(net)
        self.assertEqual((told["e"], told["f"]), ((("u", "u"), ("z", "z")), (("o", "o"),)))
        self.assertEqual(told["s"], pairs(PLAIN)["s"])

    def test_what_is_told_is_new(self):
        told = pairs(PLAIN)
        told["g"] = ()
        self.assertEqual(len(pairs(PLAIN)["g"]), 4)
        self.assertIsNot(pairs(PLAIN), pairs(PLAIN))


class TestMet(Case):
    def test_small_nets(self):
        chance = random.Random(22)
        for _ in range(40):
            net = small_net(chance)
            told = met_one_by_one(net)
            for wire in net.wires:
                for pair in itertools.product([None, *KINDS, "zz"], repeat=2):
                    course = met(net, wire, *pair)
                    if pair in told[wire]:
                        self.assertIs(type(course), Course)
                        self.assertEqual((course.net, course.pairs[wire]), (net, pair))
                    else:
                        self.assertIsNone(course)

    def test_by_name(self):
        course = met(net=PLAIN, wire="h", begin=None, end="o")
        self.assertEqual(course.pairs["h"], (None, "o"))

    def test_no_pairs(self):
        for value in NO_NAMES + ["zz", "A", ("u", "u")]:
            if value is not None:
                self.assertIsNone(met(PLAIN, "g", value, "u"))
                self.assertIsNone(met(PLAIN, "g", "u", value))
                self.assertIsNone(met(PLAIN, "g", value, None))
        self.assertIsNone(met(PLAIN, "g", None, None))

    def test_no_wires(self):
        for value in NO_NAMES + ["j", "a", "k", "w", "D"]:
            self.refused(UnknownName, {"name": value}, met, PLAIN, value, "u", "u")
            self.refused(UnknownName, {"name": value}, met, PLAIN, value, [], None)


class TestEndless(Case):
    def test_samples(self):
        self.assertEqual([endless(net) for net in (PLAIN, KEPT, FRAIL)], [(), (), ()])
        keeper = TWO.as_keeper("q").as_station("n")
        self.assertEqual(endless(keeper), ())
        self.assertEqual(endless(TWO), (("n", "u"), ("n", "v")))
        self.assertEqual(endless(TWO.as_frail("n")), ())
        self.assertEqual(endless(TWO.as_station("n")), ())

    def test_small_nets(self):
        chance = random.Random(23)
        found = 0
        for _ in range(100):
            net = small_net(chance)
            told = endless(net)
            expected = {(net.goal(wire), begin) for wire, row in met_one_by_one(net).items() for begin, end in row
                        if end is None and net.goal(wire) in net.stations and net[net.goal(wire)].KIND == "keeper"}
            self.alike(told, tuple(sorted(expected)))
            found += bool(told)
        self.assertGreater(found, 5)

    def test_only_keepers(self):
        books = [("x", Book(k={"w": "k", "v": "k", "u": "k"})), ("y", Book())]
        for sort, told in ((Station, ()), (Frail, ()), (Keeper, (("p", "k"),))):
            net = Net(Door("d", "j", "k"), Station("j", {"w": "p", "v": "t", "u": "s"}, *books),
                      sort("p", {}, ("x", Book())), Station("s", {}, ("x", Book())), Tally("t"))
            self.assertEqual(endless(net), told)


class TestShowsPairs(Case):
    def test_greater_tables(self):
        told = pairs(KEPT)
        told["d"] = (("k", "k"), ("z", None))
        self.assertIs(shows_pairs(KEPT, told), True)
        # A pair more at g is closed if all that follows from it is told, too.
        told["g"] = ((None, "u"),) + told["g"]
        self.assertIs(shows_pairs(KEPT, told), False)
        told["s"] = ((None, "o"),) + told["s"]
        self.assertIs(shows_pairs(KEPT, told), True)
        self.assertIs(shows_pairs(net=PLAIN, thing=pairs(FRAIL)), True)
        self.assertIs(shows_pairs(KEPT, pairs(PLAIN)), True)
        self.assertIs(shows_pairs(PLAIN, pairs(KEPT)), False)

    def test_all_pairs(self):
        chance = random.Random(24)
        every = tuple(sorted(set(itertools.product([None, *KINDS, "zz"], repeat=2)) - {(None, None)}, key=order))
        for _ in range(30):
            net = small_net(chance)
            self.assertIs(shows_pairs(net, {wire: every for wire in net.wires}), True)

    def test_spoilt_tables(self):
        for net in (PLAIN, KEPT, FRAIL, TWO):
            right = pairs(net)
            for wire in net.wires:
                row = right[wire]
                spoilt = [row[:at] + row[at + 1:] for at in range(len(row))]   # one left out
                spoilt += [row[:at] + (row[at],) + row[at:] for at in range(len(row))]   # one twice
                spoilt += [row[::-1]] if len(row) > 1 else []
                spoilt += [row + (pair,) for pair in NO_NAMES + [(None, None), ("z",), ("z", "z", "z"), ("z", "A"),
                                                                 ("z", 1), ("z", True), ("self", "z"), ["z", "z"],
                                                                 ("z", "z\n"), "zz", ("z", ("z",))]]
                spoilt += [list(row), dict.fromkeys(row), [list(pair) for pair in row],
                           tuple(list(pair) for pair in row), None, str(row), row[0]]
                for value in spoilt:
                    self.assertIs(shows_pairs(net, {**right, wire: value}), False, (wire, value))
                less = {other: right[other] for other in right if other != wire}
                self.assertIs(shows_pairs(net, less), False)
            for key in ["zz", "j", "a", None, 1, True, (), ("d",)]:
                self.assertIs(shows_pairs(net, {**right, key: ()}), False)

    def test_one_pair_less(self):
        chance = random.Random(25)
        for _ in range(40):
            net = small_net(chance)
            right = pairs(net)
            for wire in net.wires:
                for pair in right[wire]:
                    less = tuple(other for other in right[wire] if other != pair)
                    self.assertIs(shows_pairs(net, {**right, wire: less}), False)

    def test_one_pair_more(self):
        chance = random.Random(26)
        found = {True: 0, False: 0}
        for _ in range(40):
            net = small_net(chance)
            right = pairs(net)
            for wire in net.wires:
                for pair in itertools.product([None, *KINDS], repeat=2):
                    if pair in right[wire] or pair == (None, None):
                        continue
                    more = {**right, wire: tuple(sorted([*right[wire], pair], key=order))}
                    expected = True
                    if net.goal(wire) in net.stations:
                        for row in net[net.goal(wire)].outcomes(*pair):
                            expected = expected and all(row[3][other] in right[other] for other in row[3])
                    self.assertIs(shows_pairs(net, more), expected)
                    found[expected] += 1
        self.assertGreater(min(found.values()), 20)

    def test_any_values(self):
        for value in NO_NAMES + [list(pairs(PLAIN).items()), tuple(pairs(PLAIN)), str(pairs(PLAIN))]:
            self.assertIs(shows_pairs(PLAIN, value), False)
            self.assertIs(shows_pairs(Net(), value), value == {} and isinstance(value, dict))

    def test_wires_without_pairs(self):
        net = Net(Door("d", "j", "k"), Station("j", {"g": "t"}, ("x", Book(l={"g": "k"}))), Tally("t"))
        self.assertIs(shows_pairs(net, {"d": (("k", "k"),), "g": ()}), True)
        self.assertIs(shows_pairs(net, {"d": (("k", "k"),)}), False)
        self.assertIs(shows_pairs(net, {"d": (("k", "k"), ("l", "l")), "g": ()}), False)
        self.assertIs(shows_pairs(net, {"d": (("k", "k"), ("l", "l")), "g": (("k", "k"),)}), True)

    def test_nothing_is_changed(self):
        told = pairs(PLAIN)
        shows_pairs(PLAIN, told)
        self.assertEqual(told, pairs(PLAIN))
        for value in ODD:
            shows_pairs(PLAIN, value)
