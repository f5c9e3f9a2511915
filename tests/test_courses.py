"""Courses: what they tell, and of which values they are made."""

import random

from evenends.books import Book
from evenends.courses import Course
from evenends.errors import InvalidCourse
from evenends.nets import Net
from evenends.parts import Door, Tally
from evenends.stations import Frail, Keeper, Station
from evenends.vectors import Vector
from tests.model import Told, choices_of, small_net
from tests.samples import FRAIL, KEPT, NO_NAMES, ODD, PLAIN, TWO, Case

SORTS = (Station, Keeper, Frail)

# A net whose doors, stations and wires have the names of the parameters.
AWKWARD = Net(Door("number", "net", "kind", "k"), Station("net", {"w": "door", "v": "kind"}, ("a", Book(k={"w": "k"})),
                                                          ("b", Book(k={"v": "k"}, kind={"w": "k", "v": "l"}))),
              Station("door", {"u": "t"}, ("a", Book(k={"u": "k"})), ("b", Book())),
              Frail("kind", {"s": "t"}, ("a", Book(k={"s": "k"})), ("b", Book(k={"s": "l"}))),
              Tally("t", k=5, l=-2))


class TestWhatCoursesTell(Case):
    def test_ordinary(self):
        for course in (Course(PLAIN, "d", "k", j=("one", "two")), Course(PLAIN, "d", "k", j=("one", "two", False)),
                       Course(net=PLAIN, door="d", kind="k", j=("one", "two"), q=("only", "only")),
                       Course.of(PLAIN, "d", "k", {"j": ("one", "two")}),
                       Course.of(net=PLAIN, door="d", kind="k", choices={"q": ("only", "only"), "j": ("one", "two")})):
            self.assertEqual((course.net, course.door, course.kind), (PLAIN, "d", "k"))
            self.ascends(course.choices, {"j": ("one", "two", False), "q": ("only", "only", False)})
            self.ascends(course.pairs, {"d": ("k", "k"), "g": ("u", "v"), "h": (None, "o"), "s": ("o", None)})
            self.assertEqual((course.begin, course.drift), (Vector(a=1), Vector(a=1, b=-1)))
            self.assertEqual(course.passed, ("j", "q"))

    def test_without_choices(self):
        for course in (Course(PLAIN, "d", "k"), Course.of(PLAIN, "d", "k", {})):
            self.ascends(course.choices, {"j": ("one", "one", False), "q": ("only", "only", False)})
            self.ascends(course.pairs, {"d": ("k", "k"), "g": ("u", "u"), "s": ("o", "o")})
            self.assertEqual((course.begin, course.drift), (Vector(a=1), Vector()))

    def test_keepers(self):
        course = Course(KEPT, "d", "k", j=("one", "two"))
        self.assertEqual(course.pairs, {"d": ("k", "k"), "g": ("u", "v"), "h": (None, "o"), "s": ("o", "o")})
        self.assertEqual((course.begin, course.drift), (Vector(a=1), Vector(b=-1)))
        course = Course(KEPT, "d", "k", j=("two", "one"))
        self.assertEqual(course.pairs, {"d": ("k", "k"), "g": ("v", "u"), "h": ("o", None)})
        self.assertEqual((course.begin, course.drift, course.passed), (Vector(b=1), Vector(b=1), ("j", "q")))

    def test_frail_keepers(self):
        kept = Course(FRAIL, "d", "k", j=("one", "two"), q=("only", "only", False))
        lost = Course(FRAIL, "d", "k", j=("one", "two"), q=("only", "only", True))
        self.assertEqual([kept.drift, lost.drift], [Vector(b=-1), Vector(a=1, b=-1)])
        self.assertEqual(lost.choices["q"], ("only", "only", True))

    def test_stations_that_are_not_passed(self):
        net = Net.of([*[PLAIN[name] for name in ("d", "j", "q", "a", "b")], Door("e", "q", "u", "x")])
        course = Course(net, "e", "u", j=("two", "one"))
        self.assertEqual((course.passed, course.pairs), (("q",), {"e": ("u", "u"), "s": ("o", "o")}))
        self.assertEqual(course.choices["j"], ("two", "one", False))
        course = Course(net, "e", "x")
        self.assertEqual((course.passed, course.pairs, course.begin), (("q",), {"e": ("x", "x")}, Vector()))

    def test_a_door_at_a_tally(self):
        net = Net(Door("d", "t", "k", "l"), Tally("t", k=7))
        self.assertEqual([Course(net, "d", kind).begin for kind in "kl"], [Vector(t=7), Vector()])
        course = Course(net, "d", "k")
        self.assertEqual((course.pairs, course.drift, course.passed, course.choices),
                         ({"d": ("k", "k")}, Vector(), (), {}))

    def test_the_order_of_keys(self):
        course = Course.of(TWO, "d", "x", {"q": ("two", "one"), "j": ("two", "one")})
        self.assertEqual(list(course.pairs), sorted(course.pairs))
        self.assertEqual(list(course.choices), ["j", "n", "q"])

    def test_small_nets(self):
        chance = random.Random(11)
        for _ in range(150):
            net = small_net(chance)
            for _ in range(10):
                door = chance.choice(net.doors)
                kind = chance.choice(net[door].kinds)
                choices = {name: chance.choice(choices_of(net[name])) for name in net.stations}
                told = Told(net, door, kind, choices)
                course = Course.of(net, door, kind, choices)
                self.ascends(course.pairs, dict(sorted(told.pairs.items())))
                self.assertEqual((course.begin, course.drift), (told.begin, told.drift))
                self.ascends(course.choices, choices)
                self.assertEqual(course.passed, tuple(sorted({net.goal(wire) for wire in told.pairs
                                                              if net.goal(wire) in net.stations})))

    def test_names_of_parameters(self):
        choices = {"net": ("b", "a"), "door": ("a", "b"), "kind": ("a", "b", True)}
        course = Course.of(AWKWARD, "number", "k", choices)
        self.ascends(course.choices, {"door": ("a", "b", False), "kind": ("a", "b", True), "net": ("b", "a", False)})
        self.assertEqual(course.pairs, Told(AWKWARD, "number", "k", course.choices).pairs)
        self.assertEqual((course.net, course.door, course.kind), (AWKWARD, "number", "k"))
        self.refused(InvalidCourse, {"reason": "book"}, Course.of, AWKWARD, "number", "k", {"net": ("c", "a")})
        other = course.with_choice("net", ("a", "a"))
        self.assertEqual((other.choices["net"], other.choices["kind"]), (("a", "a", False), ("a", "b", True)))

    def test_what_is_told_is_new(self):
        course = Course(FRAIL, "d", "k", j=("one", "two"))
        for name in ("choices", "pairs"):
            kept = dict(getattr(course, name))
            getattr(course, name).clear()
            self.assertIsNot(getattr(course, name), getattr(course, name))
            self.assertEqual(getattr(course, name), kept)
        self.assertEqual((course.begin, course.drift), (Vector(a=1), Vector(b=-1)))

    def test_it_copies(self):
        choices = {"j": ("one", "two")}
        course = Course.of(PLAIN, "d", "k", choices)
        self.assertEqual(choices, {"j": ("one", "two")})
        choices["j"] = ("two", "two")
        choices["q"] = None
        self.assertEqual(course.choices, {"j": ("one", "two", False), "q": ("only", "only", False)})

    def test_with_choice(self):
        course = Course(FRAIL, "d", "k", j=("one", "two"))
        other = course.with_choice("q", ("only", "only", True))
        self.assertEqual(other, Course(FRAIL, "d", "k", j=("one", "two"), q=("only", "only", True)))
        self.assertEqual(course.with_choice(station="j", choice=("two", "two")), Course(FRAIL, "d", "k",
                                                                                      j=("two", "two", False)))
        self.assertEqual(course, Course(FRAIL, "d", "k", j=("one", "two")))


class TestEquality(Case):
    def test_equal(self):
        course = Course(PLAIN, "d", "k", j=("one", "two"))
        again = Net.read(str(PLAIN))
        for other in (Course(PLAIN, "d", "k", j=("one", "two", False)), Course(again, "d", "k", j=("one", "two")),
                      Course(PLAIN, "d", "k", j=("one", "two"), q=("only", "only"))):
            self.assertTrue(course == other)
            self.assertFalse(course != other)
        self.assertTrue(Course(KEPT, "d", "k") == Course(FRAIL.as_keeper("q"), "d", "k"))

    def test_others(self):
        wide = Net.of([*[PLAIN[name] for name in ("j", "q", "a", "b")], Door("d", "j", "k", "l"), Door("e", "j", "k")])
        course = Course(wide, "d", "k", j=("one", "two"))
        for other in [Course(wide, "e", "k", j=("one", "two")), Course(wide, "d", "l", j=("one", "two")),
                      Course(wide, "d", "k", j=("two", "one")), Course(wide, "d", "k"),
                      Course(PLAIN, "d", "k", j=("one", "two")),
                      Course(wide.as_keeper("q"), "d", "k", j=("one", "two"))] + ODD:
            self.assertFalse(course == other)
            self.assertTrue(course != other)
            self.assertFalse(other == course)
        frail = Course(FRAIL, "d", "k")
        self.assertFalse(frail == Course(FRAIL, "d", "k", q=("only", "only", True)))

    def test_choices_without_effect_count(self):
        net = Net.of([*[PLAIN[name] for name in ("j", "q", "a", "b")], Door("d", "q", "u")])
        one, other = Course(net, "d", "u"), Course(net, "d", "u", j=("one", "two"))
        self.assertEqual((one.pairs, one.drift), (other.pairs, other.drift))
        self.assertFalse(one == other)


class TestInvalidCourses(Case):
    def wrong(self, reason, door, kind, choices):
        """Checks the class and its method of; what is passed by keywords has strings as keys."""
        self.refused(InvalidCourse, {"reason": reason}, Course.of, FRAIL, door, kind, choices)
        if isinstance(choices, dict) and all(isinstance(name, str) and name != "self" for name in choices):
            self.refused(InvalidCourse, {"reason": reason}, Course, FRAIL, door, kind, **choices)

    def wrong_choice(self, reason, station, choice):
        """Checks a wrong choice by all three ways."""
        course = Course(FRAIL, "d", "k", j=("one", "two"))
        self.refused(InvalidCourse, {"reason": reason}, course.with_choice, station, choice)
        self.assertEqual(course, Course(FRAIL, "d", "k", j=("one", "two")))
        try:
            choices = {station: choice}
        except TypeError:
            return
        self.wrong(reason, "d", "k", choices)

    def test_doors(self):
        for value in NO_NAMES + ["e", "j", "a", "g", "k", "D"]:
            self.wrong("door", value, "k", {})

    def test_kinds(self):
        for value in NO_NAMES + ["u", "o", "d", "l", "K"]:
            self.wrong("kind", "d", value, {})

    def test_kinds_of_other_doors(self):
        net = Net.of([*[PLAIN[name] for name in ("d", "j", "q", "a", "b")], Door("e", "q", "u")])
        self.refused(InvalidCourse, {"reason": "kind"}, Course, net, "d", "u")
        self.refused(InvalidCourse, {"reason": "kind"}, Course, net, "e", "k")
        self.assertEqual(Course(net, "e", "u").kind, "u")

    def test_no_dicts(self):
        for value in NO_NAMES + [[("j", ("one", "two"))], (("j", ("one", "two")),)]:
            if not isinstance(value, dict):
                self.wrong("station", "d", "k", value)

    def test_stations(self):
        for value in NO_NAMES + ["a", "d", "g", "one", "x"]:
            self.wrong_choice("station", value, ("one", "one"))

    def test_choices(self):
        for value in NO_NAMES + ["one", "on", ["one", "two"], ["one", "two", False], ("one",), (), {"one": "two"},
                                 ("one", "two", False, False)]:
            if not isinstance(value, tuple) or len(value) not in (2, 3):
                self.wrong_choice("choice", "j", value)

    def test_books(self):
        for value in NO_NAMES + ["only", "j", "k", "One"]:
            self.wrong_choice("book", "j", (value, "two"))
            self.wrong_choice("book", "j", ("two", value))
            self.wrong_choice("book", "j", ("one", value, False))
            if value != "only":
                self.wrong_choice("book", "q", (value, "only", True))

    def test_forgets(self):
        for value in NO_NAMES + ["True"]:
            if value is not True and value is not False:
                self.wrong_choice("forgets", "q", ("only", "only", value))
                self.wrong_choice("forgets", "j", ("one", "two", value))
        self.wrong_choice("forgets", "j", ("one", "two", True))
        for value in (True, False):
            self.assertIs(Course(FRAIL, "d", "k", q=("only", "only", value)).choices["q"][2], value)
        for net in (PLAIN, KEPT):
            self.refused(InvalidCourse, {"reason": "forgets"}, Course, net, "d", "k", q=("only", "only", True))
            self.refused(InvalidCourse, {"reason": "forgets"}, Course(net, "d", "k").with_choice, "q",
                         ("only", "only", True))
            self.assertIs(Course(net, "d", "k", q=("only", "only", False)).choices["q"][2], False)

    def test_two_wrong_things(self):
        bad = {"door": "x", "kind": "x", "station": {"a": None}, "choice": {"j": ["one", "one"]},
               "book": {"j": ("one", "three")}, "forgets": {"j": ("one", "two", True)}}
        reasons = list(bad)
        for place, reason in enumerate(reasons):
            for other in reasons[place + 1:]:
                told = {"door": "d", "kind": "k", "choices": {}}
                for part in (other, reason):
                    if part in told:
                        told[part] = bad[part]
                    else:
                        told["choices"] = {**told["choices"], **bad[part]}
                self.wrong(reason, told["door"], told["kind"], told["choices"])
        self.wrong("door", None, None, None)
        self.wrong("kind", "d", None, None)

    def test_whatever_the_station(self):
        self.wrong("station", "d", "k", {"j": None, "x": ("one", "one")})
        self.wrong("choice", "d", "k", {"j": ("three", "one"), "q": None})
        self.wrong("choice", "d", "k", {"q": None, "j": ("three", "one")})
        self.wrong("book", "d", "k", {"j": ("one", "one", 1), "q": ("only", "two")})
        self.wrong("forgets", "d", "k", {"j": ("one", "one"), "q": ("only", "only", 1)})

    def test_two_wrong_things_in_a_choice(self):
        self.wrong_choice("station", "a", None)
        self.wrong_choice("book", "j", ("three", "one", True))
        self.wrong_choice("book", "j", ("one", "three", None))
        self.wrong_choice("choice", "j", ("three", "four", True, 1))


class TestAllSorts(Case):
    def test_one_station(self):
        for sort in SORTS:
            net = Net(Door("d", "q", "k"), sort("q", {"v": "t", "w": "t"}, ("x", Book(k={"v": "k"})),
                                                ("y", Book(k={"v": "l", "w": "k"}))), Tally("t", k=1, l=10))
            for choice in choices_of(net["q"]):
                course = Course(net, "d", "k", q=choice)
                told = Told(net, "d", "k", {"q": choice})
                self.assertEqual((course.pairs, course.begin, course.drift), (told.pairs, told.begin, told.drift))
                self.assertEqual(course.drift == Vector(), sort is Keeper or choice[0] == choice[1]
                                 or (sort is Frail and not choice[2]))
