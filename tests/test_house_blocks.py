"""Rows of deeds, trials, twins and the equality of houses."""

from evenends.errors import InvalidDeed, MissingError, NoItem, TooMany, UnknownName
from evenends.houses import House
from evenends.nets import Net
from evenends.vectors import Vector
from tests.samples import FRAIL, INTEGERS, KEPT, ODD, PLAIN, Case

OPEN, CLOSE, SETTLE = ("open", "d", "k"), ("close", 0), ("settle",)


def busy():
    """A house with something of everything."""
    house = House(FRAIL)
    house.do(OPEN, OPEN, OPEN, ("move", "d"), ("move", "g"), ("move", "s"), ("book", "j", "two"), ("move", "d"), CLOSE)
    house.most_open = 7
    return house


class TestDo(Case):
    def test_what_it_returns(self):
        house = House(KEPT)
        self.assertEqual(house.do(), ())
        told = house.do(OPEN, ("move", "d"), ("book", "j", "two"), ("restart", "q"), SETTLE, CLOSE, SETTLE)
        self.assertIs(type(told), tuple)
        self.assertEqual(told, (0, ("begin", 0, "k"), None, None, 2, None, 4))
        self.assertEqual((house.tallies, house.books["j"]), (Vector(b=-1), "two"))

    def test_the_same_as_the_methods(self):
        one, other = House(FRAIL), House(FRAIL)
        one.do(OPEN, OPEN, ("move", "d"), SETTLE, ("restart", "q"), ("book", "j", "two"), CLOSE, ("move", "d"))
        other.open_item("d", "k")
        other.open_item("d", "k")
        other.move("d")
        other.settle()
        other.restart("q")
        other.use("j", "two")
        other.close(0)
        other.move("d")
        self.assertEqual(one, other)

    def test_no_deeds(self):
        house = busy()
        before = house.twin()
        wrong = ODD + INTEGERS + ["open", "settle", ["settle"], ("settle", "d"), ("open",), ("open", "d"),
                                  ("open", "d", "k", "k"), ("close",), ("close", 0, 0), ("move",), ("move", "d", "d"),
                                  ("book", "j"), ("book", "j", "one", "one"), ("restart",), ("restart", "q", "q"),
                                  ("Open", "d", "k"), ("use", "j", "two"), ("settle ",), (None,), (0,), (["open"],),
                                  (("open", "d", "k"),), ("begin", 0, "k"), ("table",), (), ("",), ("net",)]
        for value in wrong:
            for deeds in ((value,), (OPEN, value), (value, OPEN), (("move", "x"), value)):
                self.refused(InvalidDeed, {"reason": "deed"}, house.do, *deeds)
                self.assertEqual(house, before)
        house.do(OPEN, ("close", 1), ("move", "d"), ("book", "j", "two"), ("restart", "q"), SETTLE)

    def test_the_first_error(self):
        house = busy()
        before = house.twin()
        for deed, error, fields in (
                (("open", "x", "k"), UnknownName, {"name": "x"}),
                (("open", ["x"], {}), UnknownName, {"name": ["x"]}),
                (("open", "d", None), InvalidDeed, {"reason": "kind"}),
                (("close", 9), NoItem, {"number": 9}),
                (("close", True), NoItem, {"number": True}),
                (("move", "x"), UnknownName, {"name": "x"}),
                (("move", "s"), InvalidDeed, {"reason": "empty"}),
                (("book", "x", "y"), UnknownName, {"name": "x"}),
                (("book", "j", {}), UnknownName, {"name": {}}),
                (("restart", "d"), UnknownName, {"name": "d"})):
            for deeds in ((deed,), (deed, ("close", 10)), (OPEN, ("settle",), ("restart", "q"), ("book", "j", "one"),
                                                           ("close", 1), deed, ("move", "y"))):
                self.refused(error, fields, house.do, *deeds)
                self.assertEqual(house, before)
        self.assertEqual(house.do(OPEN), (3,))

    def test_too_many(self):
        house = House(PLAIN)
        house.most_open = 2
        self.refused(TooMany, {"limit": 2}, house.do, OPEN, OPEN, OPEN)
        self.assertEqual((house.open_items, house.most_open, house.is_at_rest), ({}, 2, True))
        self.assertEqual(house.do(OPEN, OPEN, CLOSE, OPEN), (0, 1, None, 2))


class TestTrials(Case):
    def test_a_trial(self):
        house = busy()
        before = house.twin()
        with house.trial() as same:
            self.assertIs(same, house)
            house.do(OPEN, SETTLE, ("book", "j", "one"), ("restart", "q"), ("close", 2), SETTLE)
            house.most_open = None
            self.assertNotEqual(house, before)
        self.assertEqual(house, before)
        self.assertEqual((house.most_open, house.open_item("d", "k")), (7, 3))

    def test_each_method_is_taken_back(self):
        house = busy()
        before = house.twin()
        for change in (lambda: house.open_item("d", "k"), lambda: house.close(2), lambda: house.move("d"),
                       lambda: house.settle(), lambda: house.use("j", "one"), lambda: house.restart("q"),
                       lambda: house.set_most_open(None), lambda: house.do(OPEN, SETTLE)):
            with house.trial():
                change()
                self.assertNotEqual(house, before)
            self.assertEqual(house, before)

    def test_it_begins_with_the_block(self):
        house = House(PLAIN)
        trial = house.trial()
        house.do(OPEN)
        with trial:
            house.do(OPEN, SETTLE)
        self.assertEqual(house.open_items, {0: ("d", "k")})
        self.assertEqual(house.wire("d"), (("begin", 0, "k"),))

    def test_used_again(self):
        house = House(PLAIN)
        trial = house.trial()
        for number in range(3):
            with trial as same:
                self.assertEqual(same.open_item("d", "k"), number)
            self.assertEqual(house.open_item("d", "k"), number)

    def test_nested(self):
        house = House(PLAIN)
        with house.trial():
            house.do(OPEN)
            with house.trial():
                house.do(OPEN, SETTLE)
                with house.trial():
                    house.do(("close", 0), ("close", 1), SETTLE)
                    self.assertEqual(house.tallies, Vector())
                self.assertEqual(house.tallies, Vector(a=2))
            self.assertEqual((house.open_items, house.tallies), ({0: ("d", "k")}, Vector()))
        self.assertEqual(house, House(PLAIN))

    def test_one_object_nested_in_itself(self):
        house = House(PLAIN)
        trial = house.trial()
        with trial:
            house.do(OPEN)
            with trial:
                house.do(OPEN)
                with trial:
                    house.do(OPEN, SETTLE)
                self.assertEqual(len(house.open_items), 2)
            self.assertEqual(len(house.open_items), 1)
        self.assertEqual(house, House(PLAIN))
        with trial:
            house.do(OPEN)
        self.assertEqual(house, House(PLAIN))

    def test_errors_pass_through(self):
        house = busy()
        before = house.twin()
        with self.assertRaises(ZeroDivisionError):
            with house.trial():
                house.do(OPEN, SETTLE)
                raise ZeroDivisionError
        self.assertEqual(house, before)
        with self.assertRaises(MissingError):
            with house.trial() as same:
                same.do(OPEN, SETTLE)
                with same.trial():
                    same.restart("q")
                    same.close(100)
        self.assertEqual(house, before)

    def test_left_by_return_and_break(self):
        house = House(PLAIN)

        def left():
            with house.trial() as same:
                return same.do(OPEN, SETTLE)

        self.assertEqual(left(), (0, 3))
        for _ in range(3):
            with house.trial():
                house.do(OPEN)
                break
        self.assertEqual(house, House(PLAIN))

    def test_tried(self):
        house = busy()
        before = house.twin()
        told = house.tried(lambda same: (same is house, same.do(OPEN, SETTLE), str(same.tallies)))
        self.assertEqual(told, (True, (3, 12), "b=2"))
        self.assertEqual(house, before)
        self.assertEqual(house.tried(deed=lambda same: same.tried(lambda other: other.open_item("d", "k"))), 3)
        self.refused(NoItem, {"number": 5}, house.tried, lambda same: same.do(OPEN) and same.close(5))
        self.assertEqual(house, before)

    def test_two_houses(self):
        one, other = House(PLAIN), House(KEPT)
        with one.trial(), other.trial():
            one.do(OPEN)
            other.do(OPEN)
        self.assertEqual((one, other), (House(PLAIN), House(KEPT)))


class TestTwins(Case):
    def test_they_do_not_affect_each_other(self):
        for first in (False, True):
            house = busy()
            twin = house.twin()
            self.assertIsNot(twin, house)
            self.assertEqual(twin, house)
            one, other = (house, twin) if first else (twin, house)
            state = [str(other.tallies), other.books, other.open_items, other.known("q"), other.most_open,
                     [other.wire(wire) for wire in FRAIL.wires]]
            one.most_open = None
            one.open_item("d", "k")
            one.use("j", "one")
            one.move("d")
            one.close(2)
            one.settle()
            one.restart("q")
            self.assertEqual(state, [str(other.tallies), other.books, other.open_items, other.known("q"),
                                     other.most_open, [other.wire(wire) for wire in FRAIL.wires]])
            self.assertEqual(other.open_item("d", "k"), 3)

    def test_a_twin_goes_on_alike(self):
        house = busy()
        twin = house.twin()
        deeds = (OPEN, SETTLE, ("close", 1), ("close", 3), SETTLE)
        self.assertEqual(house.do(*deeds), twin.do(*deeds))
        self.assertEqual(house, twin)

    def test_a_twin_in_a_trial_stays(self):
        house = House(PLAIN)
        with house.trial():
            house.do(OPEN)
            twin = house.twin()
        self.assertEqual((twin.open_items, house.open_items), ({0: ("d", "k")}, {}))


class TestEquality(Case):
    def test_equal(self):
        self.assertTrue(House(PLAIN) == House(Net.read(str(PLAIN))))
        self.assertFalse(House(PLAIN) != House(PLAIN))
        one, other = House(KEPT), House(KEPT)
        one.do(OPEN, ("move", "d"), ("book", "j", "two"), SETTLE, ("book", "j", "one"))
        other.do(OPEN, SETTLE)
        self.assertEqual(one, other)

    def test_unlike(self):
        def after(*deeds, net=KEPT, most=None):
            house = House(net)
            house.do(*deeds)
            house.most_open = most
            return house

        houses = [
            after(), after(net=PLAIN), after(net=FRAIL), after(net=Net()),   # nets
            after(("book", "j", "two")),   # books in force
            after(OPEN, SETTLE), after(OPEN), after(OPEN, ("move", "d")),   # notices
            after(OPEN, CLOSE), after(OPEN, CLOSE, SETTLE),   # items and next numbers
            after(OPEN, SETTLE, CLOSE),
            after(OPEN, SETTLE, OPEN, SETTLE, CLOSE, SETTLE), after(OPEN, SETTLE, OPEN, SETTLE, ("close", 1), SETTLE),
            after(most=0), after(most=1),
            after(OPEN, SETTLE, net=FRAIL), after(OPEN, SETTLE, ("restart", "q"), net=FRAIL)]   # remembered rows
        for place, one in enumerate(houses):
            for at, other in enumerate(houses):
                self.assertIs(one == other, place == at, (place, at))
                self.assertIs(one != other, place != at)
            for value in ODD + INTEGERS:
                if type(value) is not House:
                    self.assertFalse(one == value)

    def test_tables_count(self):
        net = Net.read("door d t k\ndoor e t l\nstation j\nbook a -\ntally t k=1 l=2")
        one, other = House(net), House(net)
        one.do(("open", "d", "k"), ("open", "e", "l"), ("close", 0), ("close", 1), ("settle",))
        other.do(("open", "e", "l"), ("open", "d", "k"), ("close", 0), ("close", 1), ("settle",))
        self.assertEqual(one, other)
        plain = PLAIN.as_station("q")
        one, other = House(plain), House(plain)
        one.do(OPEN, SETTLE, CLOSE, SETTLE, ("book", "j", "two"))
        other.do(OPEN, SETTLE, ("book", "j", "two"), CLOSE, SETTLE)
        self.assertEqual((one.books, one.open_items), (other.books, other.open_items))
        self.assertFalse(one == other)

    def test_items_count(self):
        net = Net.read("door d t k l\ntally t")
        one, other = House(net), House(net)
        one.do(("open", "d", "k"), ("settle",))
        other.do(("open", "d", "l"), ("settle",))
        self.assertFalse(one == other)
