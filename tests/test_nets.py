"""Nets: what makes them wrong, what they tell, and other nets made of them."""

import itertools
import random
import time

from evenends.books import Book
from evenends.errors import InvalidNet, InvalidPart, UnknownName
from evenends.nets import Net
from evenends.parts import Door, Tally
from evenends.stations import Frail, Keeper, Station
from tests.samples import FRAIL, KEPT, NO_NAMES, ODD, PLAIN, Case

NONE = ("one", Book())
PARTS = [Door("d", "j", "k"), Station("j", {"g": "q", "h": "b"}, ("one", Book(k={"g": "u"})),
                                      ("two", Book(k={"g": "v", "h": "o"}))),
         Station("q", {"s": "a"}, ("only", Book(u={"s": "o"}))), Tally("a", o=1), Tally("b", o=1)]


def station(name, wires, *more):
    return Station(name, wires, NONE, *more)


def reasons_by_force(parts):
    """The reason and name of InvalidNet for parts, found by going all ways; None if there is none."""
    stations = {part.name: part for part in parts if isinstance(part, Station)}
    names = [part.name for part in parts] + [wire for part in stations.values() for wire in part.wires]
    twice = [name for name in names if names.count(name) > 1]
    if twice:
        return "name", min(twice)
    ends = [part.name for part in parts if not isinstance(part, Door)]
    goals = {part.name: part.target for part in parts if isinstance(part, Door)}
    goals.update({wire: goal for part in stations.values() for wire, goal in part.wires.items()})
    lost = [wire for wire, goal in goals.items() if goal not in ends]
    if lost:
        return "goal", min(lost)
    misled = [part.name for part in stations.values() for name in part.books
              if not set(part.book(name).wires) <= set(part.wires)]
    if misled:
        return "row", min(misled)

    def ends_of_ways(name, length):
        if length == 0 or name not in stations:
            return [name]
        return [name] + [end for goal in stations[name].wires.values() for end in ends_of_ways(goal, length - 1)]

    rings = [name for name in stations
             if any(name in ends_of_ways(goal, len(stations)) for goal in stations[name].wires.values())]
    if rings:
        return "ring", min(rings)
    ways = [ends_of_ways(part.target, len(stations)) for part in parts if isinstance(part, Door)]
    doubles = [name for ends in ways for name in stations if ends.count(name) > 1]
    return ("ways", min(doubles)) if doubles else None


class TestInvalidNet(Case):
    def wrong(self, reason, name, *parts):
        for order in (parts, tuple(reversed(parts))):
            self.refused(InvalidNet, {"reason": reason, "name": name}, Net, *order)
            self.refused(InvalidNet, {"reason": reason, "name": name}, Net.of, list(order))
            self.refused(InvalidNet, {"reason": reason, "name": name}, Net.of, order)

    def test_part(self):
        parts = (Door, Station, Tally)
        for value in NO_NAMES + ["a", PLAIN, [Tally("a")]]:
            if not isinstance(value, parts):
                self.wrong("part", None, value)
                self.wrong("part", None, Tally("a"), value)
                self.wrong("part", None, Tally("a"), value, Tally("a"))

    def test_of_no_list(self):
        for value in NO_NAMES + ["a", PLAIN, {"a": Tally("a")}]:
            if value != [] and value != ():
                self.refused(InvalidNet, {"reason": "part", "name": None}, Net.of, value)

    def test_name(self):
        self.wrong("name", "a", Tally("a"), Tally("a"))
        self.wrong("name", "d", Door("d", "a", "k"), Door("d", "a", "k"), Tally("a"))
        self.wrong("name", "a", Door("a", "a", "k"), Tally("a"))
        self.wrong("name", "j", station("j", {}), station("j", {}))
        self.wrong("name", "j", station("j", {}), Tally("j"))
        self.wrong("name", "j", station("j", {}), Door("j", "a", "k"), Tally("a"))
        self.wrong("name", "g", station("j", {"g": "a"}), station("q", {"g": "a"}), Tally("a"))
        self.wrong("name", "j", station("j", {"j": "a"}), Tally("a"))
        self.wrong("name", "a", station("j", {"a": "a"}), Tally("a"))
        self.wrong("name", "d", station("j", {"d": "a"}), Door("d", "j", "k"), Tally("a"))
        self.wrong("name", "b", Tally("c"), Tally("c"), Tally("b"), Tally("b"), Tally("a"))
        self.wrong("name", "g", station("j", {"g": "a"}), station("j", {"g": "a"}), Tally("a"))

    def test_names_that_may_be_shared(self):
        Net(Door("d", "j", "d", "j"), station("j", {"g": "a"}), Station("q", {}, ("j", Book()), NONE), Tally("a", g=1))

    def test_goal(self):
        self.wrong("goal", "d", Door("d", "a", "k"))
        self.wrong("goal", "d", Door("d", "d", "k"))
        self.wrong("goal", "d", Door("d", "g", "k"), station("j", {"g": "a"}), Tally("a"))
        self.wrong("goal", "g", Door("d", "j", "k"), station("j", {"g": "d", "h": "a"}), Tally("a"))
        self.wrong("goal", "g", station("j", {"g": "h", "h": "g", "i": "j"}))
        self.wrong("goal", "c", Door("d", "x", "k"), station("j", {"e": "x", "c": "x"}))
        self.wrong("goal", "d", Door("d", "x", "k"), station("j", {"e": "x", "f": "x"}))

    def test_row(self):
        lost = Book(k={"h": "o"})
        self.wrong("row", "j", station("j", {"g": "a"}, ("two", lost)), Tally("a"))
        self.wrong("row", "j", station("j", {}, ("two", lost)))
        self.wrong("row", "j", station("j", {"g": "a"}, ("two", lost)), station("q", {"h": "a"}), Tally("a"))
        self.wrong("row", "i", station("j", {"g": "a"}, ("two", lost)), station("i", {}, ("two", lost)), Tally("a"))
        self.wrong("row", "j", station("j", {"g": "a"}, ("two", Book(k={"d": "o"}))), Door("d", "j", "k"), Tally("a"))

    def test_ring(self):
        self.wrong("ring", "j", station("j", {"g": "j"}))
        self.wrong("ring", "j", station("j", {"g": "q"}), station("q", {"h": "j"}))
        self.wrong("ring", "k", station("j", {"g": "k"}), station("k", {"h": "l"}), station("l", {"i": "k"}))
        self.wrong("ring", "b", station("a", {"g": "c"}), station("b", {"h": "c"}), station("c", {"i": "d"}),
                   station("d", {"k": "b"}))
        self.wrong("ring", "j", station("j", {"a": "t", "b": "q"}), station("q", {"c": "r"}),
                   station("r", {"x": "t", "y": "j"}), Tally("t"))
        self.wrong("ring", "n", Door("d", "m", "k"), station("m", {"a": "n"}), station("n", {"b": "o"}),
                   station("o", {"c": "n"}))

    def test_rings_need_no_door_and_no_row(self):
        self.wrong("ring", "p", station("p", {"g": "q"}), station("q", {"h": "p"}), Door("d", "a", "k"), Tally("a"))

    def test_ways(self):
        door = Door("d", "j", "k")
        self.wrong("ways", "q", door, station("j", {"g": "q", "h": "q"}), station("q", {}))
        self.wrong("ways", "q", door, station("j", {"g": "q", "h": "m"}), station("q", {}), station("m", {"i": "q"}))
        self.wrong("ways", "q", door, station("j", {"g": "l", "h": "m"}), station("q", {}), station("m", {"i": "q"}),
                   station("l", {"k": "q"}))
        self.wrong("ways", "p", door, station("j", {"g": "q", "h": "q"}), station("q", {"i": "p"}), station("p", {}))
        self.wrong("ways", "a", door, station("j", {"g": "q", "h": "q"}), station("q", {"i": "p"}),
                   station("p", {"s": "a"}), station("a", {}))

    def test_ways_that_may_be(self):
        two = [station("j", {"g": "q", "h": "q"}), station("q", {"i": "a", "k": "a"}), Tally("a")]
        Net(*two)
        Net(*two, Door("d", "q", "k"), Door("e", "q", "k"))
        Net(Door("d", "j", "k"), Door("e", "l", "k"), station("j", {"g": "q", "h": "a"}),
            station("l", {"i": "q", "m": "a"}), station("q", {"s": "a", "t": "a"}), Tally("a"))
        self.wrong("ways", "q", Door("e", "q", "k"), Door("d", "j", "k"), *two)

    def test_two_at_once(self):
        twice, astray = [Tally("z"), Tally("z")], Door("y", "nowhere", "k")
        misled, ring = station("x", {}, ("two", Book(k={"h": "o"}))), station("w", {"v": "w"})
        ways = [Door("d", "j", "k"), station("j", {"g": "a", "h": "a"}), station("a", {})]
        self.wrong("part", None, *twice, 3)
        self.wrong("name", "z", *twice, astray, misled, ring, *ways)
        self.wrong("goal", "y", astray, misled, ring, *ways)
        self.wrong("row", "x", misled, ring, *ways)
        self.wrong("ring", "w", ring, *ways)
        self.wrong("ways", "a", *ways)

    def test_many_small_nets(self):
        chance = random.Random(2)
        found = {}
        for _ in range(3000):
            names = [f"s{letter}" for letter in "abcde"][:chance.randint(1, 5)]
            wires = iter(chance.sample("abcdefghijklmnopqrstuvwxyz", 26))
            ends = names + ["t", "u"]
            down = chance.random() < 0.7
            parts = [Tally("ta"), Tally("u")] if chance.random() < 0.05 else [Tally("t"), Tally("uu")]
            ends = names + [part.name for part in parts] + (["lost"] if chance.random() < 0.03 else [])
            for place, name in enumerate(names):
                goals = ends[place + 1:] if down else ends
                made = {next(wires) + "w": chance.choice(goals) for _ in range(chance.randint(0, 3))}
                row = {wire: "o" for wire in made}
                if chance.random() < 0.03:
                    row["other"] = "o"
                parts.append(Station(name, made, ("one", Book(k=row))))
            for door in ("da", "db")[:chance.randint(0, 2)]:
                parts.append(Door(door, chance.choice(ends), "k"))
            chance.shuffle(parts)
            reason = reasons_by_force(parts)
            found[reason and reason[0]] = found.get(reason and reason[0], 0) + 1
            if reason is None:
                Net(*parts)
            else:
                self.refused(InvalidNet, {"reason": reason[0], "name": reason[1]}, Net, *parts)
        self.assertEqual(set(found), {None, "goal", "row", "ring", "ways"})

    def test_a_large_net_in_time(self):
        names = ["s" + letter for letter in "abcdefghij"]
        kinds = ["k" + letter for letter in "abcdef"]
        wires = iter("w" + letter for letter in "abcdefghijklmnopqrstuvwx")
        parts = [Tally("t" + letter, **{kind: 1 for kind in kinds}) for letter in "abcdefgh"]
        parts += [Door("d" + letter, "sa", *kinds) for letter in "abc"]
        for place, name in enumerate(names):
            goals = names[place + 1:place + 2] + ["ta", "tb", "tc"][:1 + (place < 5)]
            made = {next(wires): goal for goal in goals}
            books = []
            for at, title in enumerate(["ba", "bb", "bc", "bd"]):
                rows = {kind: {wire: kinds[(at + n) % 6] for wire in made} for n, kind in enumerate(kinds)}
                books.append((title, Book(**rows)))
            parts.append(Station(name, made, *books))
        began = time.perf_counter()
        for _ in range(20):
            net = Net(*parts)
            self.assertEqual(Net.read(str(net)), net)
        self.assertLess(time.perf_counter() - began, 10)


class TestWhatNetsTell(Case):
    def test_tuples(self):
        for parts in itertools.permutations(PARTS):
            net = Net(*parts)
            self.assertEqual((net.doors, net.stations, net.tallies, net.wires, net.kinds),
                             (("d",), ("j", "q"), ("a", "b"), ("d", "g", "h", "s"), ("k", "o", "u", "v")))

    def test_they_ascend(self):
        net = Net(Door("z", "y", "k"), Door("b", "y", "k"), station("y", {"x": "c", "a": "c"}),
                  station("e", {"d": "c"}), Tally("f"), Tally("c"))
        self.assertEqual((net.doors, net.stations, net.tallies, net.wires),
                         (("b", "z"), ("e", "y"), ("c", "f"), ("a", "b", "d", "x", "z")))

    def test_empty(self):
        for net in (Net(), Net.of([]), Net.of(()), Net.of(parts=[])):
            self.assertEqual((net.doors, net.stations, net.tallies, net.wires, net.kinds), ((), (), (), (), ()))
            self.assertEqual((str(net), repr(net), "a" in net), ("", "Net(0 stations)", False))

    def test_kinds(self):
        self.assertEqual(Net(Tally("t", a=1, b=0)).kinds, ("a",))
        self.assertEqual(Net(Tally("t"), Door("d", "t", "c", "b")).kinds, ("b", "c"))
        self.assertEqual(Net(Tally("t"), station("j", {"w": "t"}, ("two", Book(x={"w": "y"}, z={})))).kinds, ("x", "y"))
        self.assertEqual(Net(Tally("t", e=-1), Door("d", "t", "k"),
                             station("j", {"w": "t"}, ("two", Book(x={"w": "y"})), ("ten", Book(k={"w": "a"})))).kinds,
                         ("a", "e", "k", "x", "y"))

    def test_parts_by_name(self):
        for part in PARTS:
            self.assertEqual(PLAIN[part.name], part)
            self.assertIs(part.name in PLAIN, True)
        self.assertEqual((KEPT["q"].KIND, KEPT["j"].KIND), ("keeper", "station"))
        for value in NO_NAMES + ["g", "s", "k", "only", "x"]:
            if value not in PLAIN.doors + PLAIN.stations + PLAIN.tallies:
                self.refused(UnknownName, {"name": value}, lambda: PLAIN[value])
                self.assertIs(value in PLAIN, False)

    def test_wires(self):
        self.assertEqual([PLAIN.goal(wire) for wire in "dghs"], ["j", "q", "b", "a"])
        self.assertEqual([PLAIN.start(wire) for wire in "dghs"], [None, "j", "j", "q"])
        self.assertEqual((PLAIN.goal(wire="d"), PLAIN.start(wire="g")), ("j", "j"))
        for value in NO_NAMES + ["a", "j", "k", "x"]:
            self.refused(UnknownName, {"name": value}, PLAIN.goal, value)
            self.refused(UnknownName, {"name": value}, PLAIN.start, value)

    def test_equality(self):
        for parts in itertools.permutations(PARTS):
            self.assertTrue(Net(*parts) == PLAIN)
            self.assertFalse(Net(*parts) != PLAIN)
        others = [Net(), KEPT, FRAIL, Net(*PARTS, Tally("c")), Net(*PARTS[:3], Tally("a", o=1), Tally("b", o=2)),
                  PLAIN.renamed({"a": "c"}), PLAIN.with_book("q", "more", Book())]
        for other in others + ODD + [str(PLAIN)]:
            self.assertFalse(PLAIN == other)
            self.assertTrue(PLAIN != other)

    def test_it_copies(self):
        parts = list(PARTS)
        net = Net.of(parts)
        parts.append(Tally("c"))
        self.assertEqual(net, PLAIN)
        self.assertEqual(repr(net), "Net(2 stations)")
        self.assertRaises(TypeError, list, net)


class TestOtherNets(Case):
    def setUp(self):
        self.net = Net(*PARTS)

    def tearDown(self):
        self.assertEqual(self.net, PLAIN)
        self.assertEqual(str(self.net), str(PLAIN))

    def test_unknown_stations(self):
        for value in NO_NAMES + ["d", "a", "g", "only", "k", "x"]:
            fields = {"name": value}
            self.refused(UnknownName, fields, self.net.with_book, value, "only", None)
            self.refused(UnknownName, fields, self.net.with_book, value, "more", Book(k={"x": "o"}))
            self.refused(UnknownName, fields, self.net.without_book, value, "other")
            self.refused(UnknownName, fields, self.net.as_station, value)
            self.refused(UnknownName, fields, self.net.as_keeper, value)
            self.refused(UnknownName, fields, self.net.as_frail, value)

    def test_with_book(self):
        for net in (self.net, self.net.as_keeper("q"), self.net.as_frail("q")):
            more = net.with_book("q", "a", Book(v={"s": "o"}))
            self.assertEqual((more["q"].books, more["q"].KIND, more["q"].wires),
                             (("only", "a"), net["q"].KIND, {"s": "a"}))
            self.assertEqual(more["q"].book("a"), Book(v={"s": "o"}))
            self.assertEqual(more["q"].book("only"), net["q"].book("only"))
            self.assertEqual([more[name] for name in "djab"], [net[name] for name in "djab"])
            self.assertEqual(more.without_book(station="q", name="a"), net)
        self.assertEqual(self.net.with_book(station="q", name="j", book=Book())["q"].books, ("only", "j"))

    def test_with_wrong_books(self):
        fields = {"reason": "books"}
        for value in NO_NAMES + ["one", "two"]:
            self.refused(InvalidPart, fields, self.net.with_book, "j", value, Book(k={"s": "o"}))
        for value in NO_NAMES + ["one", {"k": {"g": "u"}}]:
            if type(value) is not Book:
                self.refused(InvalidPart, fields, self.net.with_book, "j", "more", value)
        for station_name in "jq":
            self.refused(InvalidNet, {"reason": "row", "name": station_name},
                         self.net.with_book, station_name, "more", Book(k={"d": "o"}))
        self.refused(InvalidNet, {"reason": "row", "name": "q"},
                     self.net.with_book, "q", "more", Book(k={"s": "o", "g": "u"}))

    def test_without_book(self):
        self.assertEqual(self.net.without_book("j", "one")["j"].books, ("two",))
        self.assertEqual(self.net.without_book("j", "two")["j"].books, ("one",))
        self.assertEqual(self.net.as_frail("j").without_book("j", "two")["j"].KIND, "frail")
        for value in NO_NAMES + ["only", "three", "j"]:
            self.refused(UnknownName, {"name": value}, self.net.without_book, "j", value)
            if value != "only":
                self.refused(UnknownName, {"name": value}, self.net.without_book, "q", value)
        self.refused(InvalidPart, {"reason": "books"}, self.net.without_book, "q", "only")

    def test_order_of_books_stays(self):
        net = self.net.with_book("j", "b", Book()).with_book("j", "a", Book())
        self.assertEqual(net["j"].books, ("one", "two", "b", "a"))
        self.assertEqual(net.without_book("j", "two")["j"].books, ("one", "b", "a"))
        self.assertEqual(net.as_keeper("j")["j"].books, ("one", "two", "b", "a"))

    def test_sorts(self):
        for net in (PLAIN, KEPT, FRAIL):
            for other, sort in ((net.as_station("q"), Station), (net.as_keeper("q"), Keeper),
                                (net.as_frail(station="q"), Frail)):
                self.assertIs(type(other["q"]), sort)
                self.assertEqual(other["q"], sort("q", {"s": "a"}, ("only", Book(u={"s": "o"}))))
                self.assertEqual([other[name] for name in "djab"], [PLAIN[name] for name in "djab"])
                self.assertEqual(other.as_station("q"), PLAIN)

    def test_renamed(self):
        names = {"d": "j", "j": "d", "q": "x", "a": "y", "s": "z"}
        net = self.net.renamed(names)
        self.assertEqual(str(net), "\n".join([
            "door j d k", "station d g>x h>b", "book one k>g:u", "book two k>g:v,h:o", "station x z>y",
            "book only u>z:o", "tally b o=1", "tally y o=1"]))
        self.assertEqual(net.renamed({new: old for old, new in names.items()}), PLAIN)
        self.assertEqual(self.net.renamed({}), PLAIN)
        self.assertEqual(self.net.renamed(names={"a": "a"}), PLAIN)
        self.assertEqual(names, {"d": "j", "j": "d", "q": "x", "a": "y", "s": "z"})

    def test_renamed_keeps_the_sorts_and_the_order_of_the_books(self):
        net = FRAIL.as_keeper("j").with_book("j", "a", Book(k={"h": "o"})).renamed({"j": "r", "q": "s", "s": "q"})
        self.assertEqual((net["r"].KIND, net["r"].books, net["s"].KIND), ("keeper", ("one", "two", "a"), "frail"))
        self.assertEqual(net["s"].wires, {"q": "a"})

    def test_kinds_and_books_keep_their_names(self):
        net = Net(Door("k", "j", "k"), Station("j", {"o": "a"}, ("a", Book(k={"o": "o"}))), Tally("a", o=2))
        self.assertEqual(str(net.renamed({"k": "x", "o": "y", "a": "z"})),
                         "door x j k\nstation j y>z\nbook a k>y:o\ntally z o=2")

    def test_renamed_unknown(self):
        for key in ("k", "only", "u", "x", "", "A", 1, None, True, ("a",), ()):
            self.refused(UnknownName, {"name": key}, self.net.renamed, {"a": "b", key: 3})
        self.refused(UnknownName, {"name": "y"}, self.net.renamed, {"z": "aa", "y": "aa", "a": None})
        # By repr '10' comes before '9', a string's quote before digits, and digits before None.
        for keys, first in (([9, 10], 10), ([None, 9, "z"], "z"), ([None, 9], 9), ([True, None], None)):
            for order in (keys, list(reversed(keys))):
                self.refused(UnknownName, {"name": first}, self.net.renamed, {key: "a" for key in order})

    def test_renamed_badly(self):
        fields = {"reason": "name", "name": None}
        for value in NO_NAMES:
            self.refused(InvalidNet, fields, self.net.renamed, {"a": value})
            self.refused(InvalidNet, fields, self.net.renamed, {"a": "x", "b": value})
        for names in ({"a": "b"}, {"a": "x", "b": "x"}, {"d": "s"}, {"g": "j"}, {"s": "q"}, {"a": "d", "d": "q"}):
            self.refused(InvalidNet, fields, self.net.renamed, names)
