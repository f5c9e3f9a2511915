"""Doors and tallies."""

from evenends.errors import InvalidPart
from evenends.parts import Door, Tally
from tests.samples import NAMES, NO_NAMES, ODD, Case


class TestDoor(Case):
    def test_attributes(self):
        for door in (Door("d", "j", "l", "k"), Door.of("d", "j", ["l", "k"]), Door.of("d", "j", ("k", "l")),
                     Door.of(name="d", goal="j", kinds=["k", "l"])):
            self.assertEqual((door.name, door.target, door.kinds), ("d", "j", ("k", "l")))
            self.assertEqual(vars(door), {"name": "d", "target": "j", "kinds": ("k", "l")})

    def test_names(self):
        for name in NAMES:
            door = Door(name, name, name)
            self.assertEqual((door.name, door.target, door.kinds), (name, name, (name,)))

    def wrong(self, reason, name, goal, kinds):
        self.refused(InvalidPart, {"reason": reason}, Door, name, goal, *kinds)
        self.refused(InvalidPart, {"reason": reason}, Door.of, name, goal, list(kinds))
        self.refused(InvalidPart, {"reason": reason}, Door.of, name, goal, tuple(kinds))

    def test_wrong_values(self):
        for value in NO_NAMES:
            self.wrong("name", value, "j", ["k"])
            self.wrong("goal", "d", value, ["k"])
            self.wrong("kinds", "d", "j", [value])
            self.wrong("kinds", "d", "j", ["k", value])

    def test_wrong_kinds(self):
        self.wrong("kinds", "d", "j", [])
        self.wrong("kinds", "d", "j", ["k", "l", "k"])
        self.refused(InvalidPart, {"reason": "kinds"}, Door, name="d", goal="j")
        for value in NO_NAMES + ["k", {"k": 1}]:
            if value != ["a"] and value != ("a",):
                self.refused(InvalidPart, {"reason": "kinds"}, Door.of, "d", "j", value)

    def test_two_wrong_things(self):
        self.wrong("name", 1, 2, [])
        self.wrong("name", "A", "j", [3])
        self.wrong("goal", "d", 2, [])
        self.wrong("goal", "d", None, ["k", "k"])
        self.refused(InvalidPart, {"reason": "name"}, Door.of, None, None, None)
        self.refused(InvalidPart, {"reason": "goal"}, Door.of, "d", None, None)

    def test_it_copies(self):
        kinds = ["k"]
        door = Door.of("d", "j", kinds)
        kinds.append("l")
        self.assertEqual(door.kinds, ("k",))

    def test_equality(self):
        door = Door("d", "j", "k", "l")
        self.assertTrue(door == Door("d", "j", "l", "k"))
        self.assertFalse(door != Door("d", "j", "l", "k"))
        for other in (Door("e", "j", "k", "l"), Door("d", "i", "k", "l"), Door("d", "j", "k"),
                      Tally("d"), *ODD):
            self.assertFalse(door == other)
            self.assertTrue(door != other)


class TestTally(Case):
    def test_amounts(self):
        for tally in (Tally("a", o=2, n=-1, z=0), Tally.of("a", {"z": 0, "o": 2, "n": -1}),
                      Tally.of(name="a", amounts={"n": -1, "o": 2})):
            self.assertEqual(tally.name, "a")
            self.ascends(tally.amounts, {"n": -1, "o": 2})
            self.assertEqual([tally["o"], tally["n"], tally["z"], tally["a"]], [2, -1, 0, 0])

    def test_no_amounts(self):
        for tally in (Tally("a"), Tally(name="a"), Tally("a", z=0), Tally.of("a", {})):
            self.ascends(tally.amounts, {})

    def test_names(self):
        for name in NAMES:
            self.assertEqual(Tally(name).name, name)
            tally = Tally.of("a", {name: 3})
            self.assertEqual((tally.name, tally[name]), ("a", 3))
            self.ascends(tally.amounts, {name: 3})
            if name != "name":
                self.assertEqual(tally, Tally("a", **{name: 3}))

    def test_other_values_as_kinds(self):
        tally = Tally("a", o=2)
        for value in NO_NAMES:
            self.alike(tally[value], 0)

    def test_wrong_names(self):
        for value in NO_NAMES:
            self.refused(InvalidPart, {"reason": "name"}, Tally, value, o=1)
            self.refused(InvalidPart, {"reason": "name"}, Tally.of, value, {"o": 1})

    def test_wrong_amounts(self):
        for value in ODD:
            self.refused(InvalidPart, {"reason": "amounts"}, Tally, "a", o=value)
            self.refused(InvalidPart, {"reason": "amounts"}, Tally.of, "a", {"n": 1, "o": value})
            if value not in ({}, {"a": 1}):
                self.refused(InvalidPart, {"reason": "amounts"}, Tally.of, "a", value)
        self.refused(InvalidPart, {"reason": "amounts"}, Tally, "a", O=1)
        for name in ("self", "", None, 1, True, ("o",)):
            self.refused(InvalidPart, {"reason": "amounts"}, Tally.of, "a", {name: 1})

    def test_two_wrong_things(self):
        self.refused(InvalidPart, {"reason": "name"}, Tally, "A", o=None)
        self.refused(InvalidPart, {"reason": "name"}, Tally.of, None, None)

    def test_it_copies(self):
        amounts = {"o": 1}
        tally = Tally.of("a", amounts)
        amounts["o"] = 2
        tally.amounts["o"] = 3
        self.assertEqual((tally["o"], tally.amounts), (1, {"o": 1}))

    def test_equality(self):
        tally = Tally("a", o=1, n=2)
        self.assertTrue(tally == Tally("a", n=2, o=1, z=0))
        self.assertFalse(tally != Tally("a", n=2, o=1))
        for other in (Tally("b", o=1, n=2), Tally("a", o=1), Tally("a", o=1, n=3), Door("a", "b", "n", "o"), *ODD):
            self.assertFalse(tally == other)
            self.assertTrue(tally != other)

    def test_it_is_not_iterated(self):
        self.assertRaises(TypeError, list, Tally("a", o=1))
