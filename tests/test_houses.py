"""Houses: items, notices, books in force, and what keepers remember."""

from evenends.books import Book
from evenends.errors import InvalidDeed, NoItem, TooMany, UnknownName
from evenends.houses import House
from evenends.nets import Net
from evenends.vectors import Vector
from tests.samples import FRAIL, KEPT, NO_NAMES, ODD, PLAIN, Case

WIDE = Net.read("\n".join([
    "door d a k l", "door e j k m",
    "station j p>b q>c r>n", "book one k>p:k,q:m,r:k l>q:k", "book two -", "book zero k>r:u",
    "keeper n s>c t>b", "book only k>s:k,t:k u>t:m",
    "tally a k=1 l=-5", "tally b k=10 m=3", "tally c k=100 m=7"]))


class TestAtFirst(Case):
    def test_at_first(self):
        for net in (PLAIN, KEPT, FRAIL, WIDE, Net()):
            house = House(net)
            self.assertIs(house.net, net)
            self.ascends(house.books, {name: net[name].first for name in net.stations})
            self.assertEqual((house.tallies, house.meant), (Vector(), Vector()))
            self.ascends(house.open_items, {})
            self.assertIs(house.is_at_rest, True)
            self.assertIs(house.most_open, None)
            self.assertEqual([house.wire(wire) for wire in net.wires], [() for _ in net.wires])
            for station in net.stations:
                self.ascends(house.known(station), {})
            self.assertEqual(house.settle(), 0)

    def test_by_name(self):
        self.assertEqual(House(net=PLAIN), House(PLAIN))

    def test_first_books_are_in_force(self):
        self.assertEqual(House(WIDE).books, {"j": "one", "n": "only"})
        self.assertEqual(House(WIDE.without_book("j", "one")).books, {"j": "two", "n": "only"})

    def test_dicts_belong_to_the_caller(self):
        house = House(KEPT)
        house.do(("open", "d", "k"), ("settle",))
        house.books["j"] = "two"
        house.open_items.clear()
        house.known("q")[0]["s"] = "x"
        house.known("q").clear()
        self.assertEqual((house.books["j"], house.open_items, house.known("q")),
                         ("one", {0: ("d", "k")}, {0: {"s": "o"}}))
        house.do(("book", "j", "two"), ("close", 0), ("settle",))
        self.assertEqual(house.tallies, Vector(b=-1))


class TestItems(Case):
    def test_numbers(self):
        house = House(WIDE)
        self.assertEqual([house.open_item("e", "k"), house.open_item("d", "l"), house.open_item(door="d", kind="k")],
                         [0, 1, 2])
        self.ascends(house.open_items, {0: ("e", "k"), 1: ("d", "l"), 2: ("d", "k")})
        self.assertIs(house.close(number=1), None)
        self.ascends(house.open_items, {0: ("e", "k"), 2: ("d", "k")})
        house.close(2)
        self.assertEqual(house.open_item("e", "m"), 3)
        self.ascends(house.open_items, {0: ("e", "k"), 3: ("e", "m")})

    def test_notices_keep_their_order(self):
        house = House(PLAIN)
        house.do(("open", "d", "k"), ("open", "d", "k"), ("close", 0))
        self.assertEqual(house.wire("d"), (("begin", 0, "k"), ("begin", 1, "k"), ("end", 0, "k")))
        self.assertIs(house.is_at_rest, False)
        self.assertEqual(house.move("d"), ("begin", 0, "k"))
        self.assertEqual(house.wire(name="d"), (("begin", 1, "k"), ("end", 0, "k")))
        self.assertEqual(house.wire("g"), (("begin", 0, "u"),))
        self.assertEqual([house.move("d"), house.move(wire="d")], [("begin", 1, "k"), ("end", 0, "k")])
        self.assertEqual(house.wire("g"), (("begin", 0, "u"), ("begin", 1, "u"), ("end", 0, "u")))

    def test_unknown_doors_and_kinds(self):
        house = House(WIDE)
        for value in NO_NAMES + ["a", "j", "p", "k", "x"]:
            if value not in ("d", "e"):
                self.refused(UnknownName, {"name": value}, house.open_item, value, "k")
                self.refused(UnknownName, {"name": value}, house.open_item, value, value)
            if value not in ("k", "l"):
                self.refused(InvalidDeed, {"reason": "kind"}, house.open_item, "d", value)
        self.refused(InvalidDeed, {"reason": "kind"}, house.open_item, "d", "m")
        self.refused(InvalidDeed, {"reason": "kind"}, house.open_item, "e", "l")
        self.assertEqual(house, House(WIDE))

    def test_no_items(self):
        house = House(WIDE)
        house.do(("open", "d", "k"), ("open", "d", "k"), ("close", 0))
        before = house.twin()
        for value in ODD + [0, 2, -1, 10 ** 59, "d"]:
            self.refused(NoItem, {"number": value}, house.close, value)
        self.assertEqual(house, before)
        house.close(1)
        self.refused(NoItem, {"number": 1}, house.close, 1)

    def test_true_is_not_item_one(self):
        house = House(PLAIN)
        house.do(("open", "d", "k"), ("open", "d", "k"))
        self.refused(NoItem, {"number": True}, house.close, True)
        self.refused(NoItem, {"number": False}, house.close, False)


class TestMostOpen(Case):
    def test_limit(self):
        house = House(PLAIN)
        self.assertIs(house.set_most_open(2), None)
        self.alike(house.most_open, 2)
        house.do(("open", "d", "k"), ("open", "d", "k"))
        before = house.twin()
        self.refused(TooMany, {"limit": 2}, house.open_item, "d", "k")
        self.refused(TooMany, {"limit": 2}, house.do, ("open", "d", "k"))
        self.assertEqual(house, before)
        house.close(0)
        self.assertEqual(house.open_item("d", "k"), 2)
        house.most_open = 3
        self.assertEqual(house.open_item("d", "k"), 3)
        house.most_open = None
        self.assertIs(house.most_open, None)
        self.assertEqual(house.open_item("d", "k"), 4)

    def test_none_may_be_open(self):
        house = House(PLAIN)
        house.set_most_open(most=0)
        self.refused(TooMany, {"limit": 0}, house.open_item, "d", "k")

    def test_other_errors_come_first(self):
        house = House(PLAIN)
        house.most_open = 0
        self.refused(UnknownName, {"name": "x"}, house.open_item, "x", "k")
        self.refused(InvalidDeed, {"reason": "kind"}, house.open_item, "d", "x")

    def test_wrong_limits(self):
        house = House(PLAIN)
        house.do(("open", "d", "k"), ("open", "d", "k"), ("open", "d", "k"), ("close", 1))
        house.most_open = 5

        def assign(value):
            house.most_open = value

        for value in ODD + [-1, 0, 1, -(10 ** 59)]:
            if value is not None:
                self.refused(InvalidDeed, {"reason": "most"}, house.set_most_open, value)
                self.refused(InvalidDeed, {"reason": "most"}, assign, value)
                self.assertEqual(house.most_open, 5)
        for value in (2, 3, 10 ** 59, None):
            assign(value)
            self.assertEqual(house.most_open, value)
        self.refused(InvalidDeed, {"reason": "most"}, House(PLAIN).set_most_open, -1)


class TestMoves(Case):
    def test_tallies(self):
        house = House(WIDE)
        house.do(("open", "d", "l"), ("settle",))
        self.assertEqual(house.tallies, Vector(a=-5))
        house.do(("open", "d", "k"), ("move", "d"))
        self.assertEqual(house.tallies, Vector(a=-4))
        house.do(("close", 0), ("settle",))
        self.assertEqual(house.tallies, Vector(a=1))
        house.do(("close", 1), ("settle",))
        self.assertEqual(house.tallies, Vector())

    def test_rows_lead_several_wires(self):
        house = House(WIDE)
        house.open_item("e", "k")
        self.assertEqual(house.move("e"), ("begin", 0, "k"))
        self.assertEqual([house.wire(wire) for wire in "pqrst"],
                         [(("begin", 0, "k"),), (("begin", 0, "m"),), (("begin", 0, "k"),), (), ()])
        self.assertEqual(house.settle(), 5)
        self.assertEqual(house.tallies, Vector(b=20, c=107))
        self.assertEqual(house.known("n"), {0: {"s": "k", "t": "k"}})
        self.assertEqual(house.known("j"), {})

    def test_kinds_that_a_book_does_not_lead(self):
        house = House(WIDE)
        house.open_item("e", "m")
        self.assertEqual((house.settle(), house.tallies, house.is_at_rest), (1, Vector(), True))

    def test_empty_wires(self):
        house = House(WIDE)
        for wire in WIDE.wires:
            self.refused(InvalidDeed, {"reason": "empty"}, house.move, wire)
        house.open_item("e", "k")
        house.move("e")
        self.refused(InvalidDeed, {"reason": "empty"}, house.move, "e")

    def test_unknown_wires(self):
        house = House(WIDE)
        for value in NO_NAMES + ["a", "j", "k", "x"]:
            self.refused(UnknownName, {"name": value}, house.move, value)
            self.refused(UnknownName, {"name": value}, house.wire, value)

    def test_settle_counts_moves(self):
        house = House(PLAIN)
        house.do(("open", "d", "k"), ("open", "d", "k"), ("move", "d"))
        self.assertEqual(house.settle(), 5)
        self.assertEqual(house.settle(), 0)

    def test_books_in_force(self):
        house = House(PLAIN)
        self.assertIs(house.use("j", "two"), None)
        self.ascends(house.books, {"j": "two", "q": "only"})
        house.do(("open", "d", "k"), ("settle",))
        self.assertEqual(house.tallies, Vector(b=1))
        house.use(station="j", book="one")
        house.do(("close", 0), ("settle",))
        self.assertEqual(house.tallies, Vector(a=-1, b=1))

    def test_a_book_counts_when_the_notice_comes(self):
        house = House(PLAIN)
        house.do(("open", "d", "k"), ("book", "j", "two"), ("settle",))
        self.assertEqual(house.tallies, Vector(b=1))
        house.do(("close", 0), ("move", "d"), ("book", "j", "one"), ("settle",))
        self.assertEqual(house.tallies, Vector())

    def test_wrong_books(self):
        house = House(PLAIN)
        for value in NO_NAMES + ["d", "a", "g", "one", "x"]:
            self.refused(UnknownName, {"name": value}, house.use, value, "x")
            self.refused(UnknownName, {"name": value}, house.restart, value)
            self.refused(UnknownName, {"name": value}, house.known, value)
        for value in NO_NAMES + ["only", "j", "x"]:
            self.refused(UnknownName, {"name": value}, house.use, "j", value)
        self.assertEqual(house, House(PLAIN))

    def test_a_large_table(self):
        net = Net.read("door d t k\ntally t k=999999")
        house = House(net)
        house.do(*[("open", "d", "k") for _ in range(100)], ("settle",))
        self.assertEqual(house.tallies, Vector(t=99999900))


class TestKeepers(Case):
    def changed(self, net, *between):
        """The house in which an item closes after the books were exchanged."""
        house = House(net)
        house.do(("open", "d", "k"), ("settle",), ("book", "j", "two"), *between, ("close", 0), ("settle",))
        return house

    def test_sorts(self):
        self.assertEqual(str(self.changed(PLAIN).tallies), "a=1 b=-1")
        self.assertEqual(str(self.changed(KEPT).tallies), "b=-1")
        self.assertEqual(str(self.changed(FRAIL).tallies), "b=-1")
        self.assertEqual(str(self.changed(PLAIN.as_keeper("j")).tallies), "0")

    def test_restarts(self):
        self.assertEqual(str(self.changed(PLAIN, ("restart", "q")).tallies), "a=1 b=-1")
        self.assertEqual(str(self.changed(KEPT, ("restart", "q"), ("restart", "j")).tallies), "b=-1")
        self.assertEqual(str(self.changed(FRAIL, ("restart", "j")).tallies), "b=-1")
        self.assertEqual(str(self.changed(FRAIL, ("restart", "q")).tallies), "a=1 b=-1")

    def test_a_restart_changes_nothing_else(self):
        house = House(FRAIL)
        house.do(("open", "d", "k"), ("settle",), ("open", "d", "k"), ("book", "j", "two"))
        other = house.twin()
        for station in ("j",):
            self.assertIs(house.restart(station), None)
            self.assertEqual(house, other)
        self.assertIs(house.restart(station="q"), None)
        self.assertEqual((house.known("q"), other.known("q")), ({}, {0: {"s": "o"}}))
        self.assertEqual((house.books, house.open_items, house.wire("d"), house.tallies),
                         (other.books, other.open_items, other.wire("d"), other.tallies))
        for net in (PLAIN, KEPT):
            house = House(net)
            house.do(("open", "d", "k"), ("settle",))
            other = house.twin()
            house.restart("q")
            self.assertEqual(house, other)

    def test_all_rows_are_forgotten(self):
        house = House(FRAIL)
        house.do(("open", "d", "k"), ("open", "d", "k"), ("settle",), ("restart", "q"), ("open", "d", "k"), ("settle",))
        self.ascends(house.known("q"), {2: {"s": "o"}})

    def test_remembered_and_forgotten(self):
        for net in (KEPT, FRAIL):
            house = House(net)
            house.do(("open", "d", "k"), ("open", "d", "k"))
            self.assertEqual(house.known("q"), {})
            house.do(("settle",))
            self.ascends(house.known(station="q"), {0: {"s": "o"}, 1: {"s": "o"}})
            house.do(("close", 0))
            self.ascends(house.known("q"), {0: {"s": "o"}, 1: {"s": "o"}})
            house.do(("settle",))
            self.ascends(house.known("q"), {1: {"s": "o"}})

    def test_empty_rows_are_remembered(self):
        net = KEPT.with_book("q", "more", Book(v={"s": "o"}))
        house = House(net)
        house.do(("book", "j", "two"), ("open", "d", "k"), ("settle",))
        self.ascends(house.known("q"), {0: {}})
        house.do(("book", "q", "more"), ("close", 0), ("settle",))
        self.assertEqual((house.tallies, house.known("q")), (Vector(), {}))
        plain = House(net.as_station("q"))
        plain.do(("book", "j", "two"), ("open", "d", "k"), ("settle",))
        plain.do(("book", "q", "more"), ("close", 0), ("settle",))
        self.assertEqual(plain.tallies, Vector(a=-1))

    def test_rows_of_closed_items_stay(self):
        net = Net.read("door d j k\nstation j g>q\nbook one k>g:u\nbook two -\n"
                       "keeper q s>a\nbook only u>s:o\ntally a o=1")
        for other in (net, net.as_frail("q")):
            house = House(other)
            house.do(("open", "d", "k"), ("settle",), ("book", "j", "two"), ("close", 0), ("settle",))
            self.assertEqual((house.known("q"), house.open_items, house.is_at_rest), ({0: {"s": "o"}}, {}, True))
            self.assertEqual(house.tallies, Vector(a=1))
            house.do(("open", "d", "k"), ("book", "j", "one"), ("settle",))
            self.ascends(house.known("q"), {0: {"s": "o"}, 1: {"s": "o"}})

    def test_ends_without_begins_go_as_at_plain_stations(self):
        house = House(WIDE)
        house.do(("book", "j", "two"), ("open", "e", "k"), ("settle",), ("book", "j", "one"), ("close", 0), ("settle",))
        self.assertEqual(house.tallies, Vector(b=-20, c=-107))
        self.assertEqual(house.known("n"), {})

    def test_the_kind_of_the_end_does_not_count(self):
        house = House(WIDE)
        house.do(("open", "e", "k"), ("settle",), ("book", "j", "zero"), ("close", 0), ("move", "e"), ("move", "r"))
        self.assertEqual([house.wire("s"), house.wire("t")], [(("end", 0, "k"),), (("end", 0, "k"),)])

    def test_rows_ascend(self):
        net = Net.read("door d n k\ndoor e q k\nkeeper n s>c t>b\nbook only k>s:k,t:k\n"
                       "keeper q u>b\nbook only -\ntally b\ntally c")
        house = House(net)
        house.do(("open", "d", "k"), ("open", "e", "k"), ("open", "d", "k"), ("settle",))
        self.assertEqual(list(house.known("n")[2].items()), [("s", "k"), ("t", "k")])
        self.ascends(house.known("q"), {1: {}})

    def test_items_ascend_whatever_came_first(self):
        net = Net.read("door d i k\ndoor e q k\nstation i g>q\nbook one k>g:k\n"
                       "keeper q s>a\nbook only k>s:o\ntally a o=1")
        house = House(net)
        house.do(("open", "d", "k"), ("open", "e", "k"), ("move", "e"), ("settle",))
        self.ascends(house.known("q"), {0: {"s": "o"}, 1: {"s": "o"}})


class TestMeant(Case):
    def test_meant(self):
        house = House(WIDE)
        house.do(("open", "e", "k"), ("open", "d", "l"), ("open", "d", "k"))
        self.assertEqual((house.meant, house.tallies), (Vector(a=-4, b=20, c=107), Vector()))
        house.settle()
        self.assertEqual(house.meant, Vector(a=-4, b=20, c=107))
        house.use("j", "two")
        self.assertEqual((house.meant, house.tallies), (Vector(a=-4), Vector(a=-4, b=20, c=107)))
        house.use("j", "zero")
        self.assertEqual(house.meant, Vector(a=-4, b=3))
        house.close(0)
        self.assertEqual(house.meant, Vector(a=-4))
        house.do(("close", 1), ("close", 2))
        self.assertEqual(house.meant, Vector())

    def test_several_items_of_one_kind(self):
        house = House(KEPT)
        house.do(("open", "d", "k"), ("open", "d", "k"), ("move", "d"))
        self.assertEqual(house.meant, Vector(a=2))
        house.do(("settle",), ("book", "j", "two"))
        self.assertEqual(house.meant, Vector(b=2))
        self.assertEqual(house.known("q"), {0: {"s": "o"}, 1: {"s": "o"}})
