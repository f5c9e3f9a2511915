"""Stations of the three sorts, and their outcomes."""

import itertools

from evenends.books import Book
from evenends.errors import InvalidPart, UnknownName
from evenends.stations import Frail, Keeper, Station
from tests.samples import NAMES, NO_NAMES, ODD, Case

SORTS = (Station, Keeper, Frail)
ONE = Book(u={"s": "o", "t": "p"}, w={"t": "p"})
TWO = Book(u={"t": "q"}, v={"r": "z", "s": "n"})
WIRES = {"s": "a", "t": "b", "r": "a"}


def expected(station, begin, end):
    """The outcomes as point 9 of the document tells them."""
    told = []
    for first, second in itertools.product(station.books, repeat=2):
        for forgets in (False, True) if station.KIND == "frail" else (False,):
            a = station.book(first).row(begin) if begin is not None else {}
            b = station.book(second).row(end) if end is not None else {}
            pairs = {wire: (a.get(wire), b.get(wire)) for wire in sorted(set(a) | set(b))}
            if station.KIND != "station" and None not in (begin, end) and not forgets:
                pairs = {wire: (a[wire], a[wire]) for wire in sorted(a)}
            told.append((first, second, forgets, pairs))
    return told


class TestStation(Case):
    def test_what_it_tells(self):
        for sort, kind in zip(SORTS, ("station", "keeper", "frail")):
            for station in (sort("q", WIRES, ("two", TWO), ("one", ONE)),
                            sort.of("q", WIRES, [("two", TWO), ("one", ONE)]),
                            sort.of(name="q", wires=WIRES, books=(("two", TWO), ("one", ONE)))):
                self.assertIs(type(station), sort)
                self.assertEqual((station.KIND, sort.KIND, station.name), (kind, kind, "q"))
                self.ascends(station.wires, {"r": "a", "s": "a", "t": "b"})
                self.assertEqual((station.books, station.first), (("two", "one"), "two"))
                self.assertEqual((station.book("one"), station.book(name="two")), (ONE, TWO))

    def test_bases(self):
        self.assertEqual((Keeper.__bases__, Frail.__bases__), ((Station,), (Keeper,)))

    def test_names(self):
        for name in NAMES:
            station = Station(name, {name: name}, (name, Book()))
            self.assertEqual((station.name, station.wires, station.books), (name, {name: name}, (name,)))

    def test_without_wires(self):
        self.ascends(Station("q", {}, ("one", Book())).wires, {})

    def test_rows_may_lead_other_wires(self):
        self.assertEqual(Station("q", {}, ("one", ONE)).book("one"), ONE)

    def test_unknown_books(self):
        station = Station("q", WIRES, ("one", ONE))
        for value in NO_NAMES + ["two", "q", "s"]:
            self.refused(UnknownName, {"name": value}, station.book, value)

    def wrong(self, reason, name, wires, books):
        for sort in SORTS:
            self.refused(InvalidPart, {"reason": reason}, sort, name, wires, *books)
            self.refused(InvalidPart, {"reason": reason}, sort.of, name, wires, list(books))
            self.refused(InvalidPart, {"reason": reason}, sort.of, name, wires, tuple(books))

    def test_wrong_values(self):
        for value in NO_NAMES:
            self.wrong("name", value, {}, [("one", ONE)])
            if value != {}:
                self.wrong("wires", "q", value, [("one", ONE)])
            self.wrong("wires", "q", {"s": value}, [("one", ONE)])
            self.wrong("books", "q", WIRES, [value])
            self.wrong("books", "q", WIRES, [("one", ONE), value])
            self.wrong("books", "q", WIRES, [(value, ONE)])
            if type(value) is not Book:
                self.wrong("books", "q", WIRES, [("one", value)])
        for name in ("A", "self", 1, None, True, ("s",)):
            self.wrong("wires", "q", {"s": "a", name: "a"}, [("one", ONE)])

    def test_wrong_books(self):
        self.wrong("books", "q", WIRES, [])
        self.wrong("books", "q", WIRES, [["one", ONE]])
        self.wrong("books", "q", WIRES, [("one", ONE, ONE)])
        self.wrong("books", "q", WIRES, [("one",)])
        self.wrong("books", "q", WIRES, [("one", ONE), ("two", TWO), ("one", ONE)])
        self.wrong("books", "q", WIRES, [("one", {"u": {"s": "o"}})])
        for value in NO_NAMES + [{"one": ONE}, "one"]:
            for sort in SORTS:
                self.refused(InvalidPart, {"reason": "books"}, sort.of, "q", WIRES, value)

    def test_two_wrong_things(self):
        self.wrong("name", "Q", None, [])
        self.wrong("name", None, {}, [])
        self.wrong("wires", "q", [], [])
        self.wrong("wires", "q", {"s": 1}, [3])
        for sort in SORTS:
            self.refused(InvalidPart, {"reason": "name"}, sort.of, 1, 2, 3)
            self.refused(InvalidPart, {"reason": "wires"}, sort.of, "q", 2, 3)

    def test_it_copies(self):
        wires, books = {"s": "a"}, [("one", ONE)]
        station = Station.of("q", wires, books)
        wires["t"] = "a"
        books.append(("two", TWO))
        station.wires["r"] = "a"
        self.assertEqual((station.wires, station.books), ({"s": "a"}, ("one",)))

    def test_equality(self):
        for sort in SORTS:
            station = sort("q", {"s": "a", "t": "b"}, ("one", ONE), ("two", TWO))
            self.assertTrue(station == sort("q", {"t": "b", "s": "a"}, ("one", ONE), ("two", TWO)))
            self.assertFalse(station != sort("q", {"t": "b", "s": "a"}, ("one", ONE), ("two", TWO)))
            others = [sort("p", {"s": "a", "t": "b"}, ("one", ONE), ("two", TWO)),
                      sort("q", {"s": "a", "t": "a"}, ("one", ONE), ("two", TWO)),
                      sort("q", {"s": "a"}, ("one", ONE), ("two", TWO)),
                      sort("q", {"s": "a", "t": "b"}, ("two", TWO), ("one", ONE)),
                      sort("q", {"s": "a", "t": "b"}, ("one", TWO), ("two", ONE)),
                      sort("q", {"s": "a", "t": "b"}, ("one", ONE)),
                      sort("q", {"s": "a", "t": "b"}, ("one", ONE), ("three", TWO))]
            others += [other("q", {"s": "a", "t": "b"}, ("one", ONE), ("two", TWO))
                       for other in SORTS if other is not sort]
            for other in others + ODD:
                self.assertFalse(station == other)
                self.assertTrue(station != other)
                self.assertFalse(other == station)


class TestOutcomes(Case):
    def test_all_pairs(self):
        for sort in SORTS:
            station = sort("q", WIRES, ("two", TWO), ("one", ONE), ("none", Book()))
            for begin, end in itertools.product((None, "u", "v", "w", "x"), repeat=2):
                told = list(station.outcomes(begin, end))
                self.assertEqual(told, expected(station, begin, end))
                for row, other in zip(told, expected(station, begin, end)):
                    self.assertIs(type(row), tuple)
                    self.assertIs(type(row[2]), bool)
                    self.ascends(row[3], other[3])

    def test_plain_ones(self):
        station = Station("q", WIRES, ("one", ONE), ("two", TWO))
        self.assertEqual(list(station.outcomes("u", "v")), [
            ("one", "one", False, {"s": ("o", None), "t": ("p", None)}),
            ("one", "two", False, {"r": (None, "z"), "s": ("o", "n"), "t": ("p", None)}),
            ("two", "one", False, {"t": ("q", None)}),
            ("two", "two", False, {"r": (None, "z"), "s": (None, "n"), "t": ("q", None)})])

    def test_kept_ones(self):
        station = Frail("q", WIRES, ("one", ONE), ("two", TWO))
        self.assertEqual(list(station.outcomes(begin="u", end="v"))[2:5], [
            ("one", "two", False, {"s": ("o", "o"), "t": ("p", "p")}),
            ("one", "two", True, {"r": (None, "z"), "s": ("o", "n"), "t": ("p", None)}),
            ("two", "one", False, {"t": ("q", "q")})])

    def test_without_begin_or_end(self):
        for sort in SORTS:
            station = sort("q", WIRES, ("one", ONE), ("two", TWO))
            self.assertEqual([row[3] for row in station.outcomes(None, "w") if not row[2]],
                             [{"t": (None, "p")}, {}, {"t": (None, "p")}, {}])
            self.assertEqual([row[3] for row in station.outcomes("w", None) if not row[2]],
                             [{"t": ("p", None)}, {"t": ("p", None)}, {}, {}])
            self.assertEqual([row[3] for row in station.outcomes(None, None)],
                             [{} for _ in range(8 if sort is Frail else 4)])

    def test_the_order_of_the_books(self):
        station = Frail("q", WIRES, ("z", TWO), ("a", ONE))
        self.assertEqual([row[:3] for row in station.outcomes("u", "u")],
                         [(one, other, forgets) for one in "za" for other in "za" for forgets in (False, True)])

    def test_two_by_turns(self):
        station = Frail("q", WIRES, ("one", ONE), ("two", TWO))
        one, other = station.outcomes("u", "v"), station.outcomes("v", "u")
        told = [(next(one), next(other)) for _ in range(8)]
        self.assertEqual([row[0] for row in told], expected(station, "u", "v"))
        self.assertEqual([row[1] for row in told], expected(station, "v", "u"))
        self.assertRaises(StopIteration, next, one)

    def test_dicts_belong_to_the_caller(self):
        for sort in SORTS:
            station = sort("q", WIRES, ("one", ONE))
            for row in station.outcomes("u", "u"):
                row[3].clear()
            self.assertEqual(list(station.outcomes("u", "u")), expected(station, "u", "u"))
            self.assertEqual(station.book("one"), Book(u={"s": "o", "t": "p"}, w={"t": "p"}))
