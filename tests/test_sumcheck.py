"""What shows that weightings are clean or level, and what does not."""

import random

from evenends.books import Book
from evenends.courses import Course
from evenends.errors import UnknownName
from evenends.nets import Net
from evenends.parts import Door, Tally
from evenends.stations import Station
from evenends.sumcheck import shows_clean, shows_level
from evenends.weightings import Weighting
from tests.model import every_course, small_net
from tests.samples import FRAIL, KEPT, NO_NAMES, ODD, PLAIN, TWO, Case

# Worths and numbers that were found by hand, for a + b in PLAIN.
BOTH = Weighting(a=1, b=1)
WORTHS = {("d", "k", "k"): 0, ("g", "u", "u"): 0, ("g", "u", "v"): 1, ("g", "v", "u"): -1, ("g", "v", "v"): 0,
          ("h", None, "o"): -1, ("h", "o", None): 1, ("h", "o", "o"): 0, ("s", None, "o"): -1, ("s", "o", None): 1,
          ("s", "o", "o"): 0}
NUMBERS = {("d", "k"): 1, ("g", "u"): 1, ("g", "v"): 0, ("h", "o"): 1, ("s", "o"): 1}
# Keys that no course needs, worth what the rules tell.
FREE = {("g", "u", None): 1, ("g", "zz", None): 0, ("h", "zz", "o"): -1, ("s", "zz", "zy"): 0, ("g", "zz", "u"): -1}


def weighting_by(chance, net):
    return Weighting.of({name: chance.randint(-2, 2) for name in net.tallies}, chance.choice([0, 2, 3]))


def worths_of(net, weighting):
    """Worths for all pairs of kinds at all wires, each by its first choice; right if the weighting is clean."""
    worths = {}

    def worth(wire, begin, end):
        goal = net[net.goal(wire)]
        if net.goal(wire) in net.tallies:
            number = weighting.vector[goal.name] * (goal[begin] - goal[end])
        else:
            number = sum(worth(other, *pair) for other, pair in list(goal.outcomes(begin, end))[0][3].items())
        worths[wire, begin, end] = number
        return number

    for wire in net.wires:
        for begin in (None, *net.kinds):
            for end in (None, *net.kinds):
                if begin or end:
                    worth(wire, begin, end)
    return worths


def needed_from(net, worths):
    """The worths of the pairs that courses need."""
    needed, left = {}, [(door, kind, kind) for door in net.doors for kind in net[door].kinds]
    while left:
        key = left.pop()
        if key not in needed:
            needed[key] = worths[key]
            if net.goal(key[0]) in net.stations:
                for row in net[net.goal(key[0])].outcomes(*key[1:]):
                    left += [(wire, *pair) for wire, pair in row[3].items()]
    return needed


class TestShowsClean(Case):
    def right(self, weighting, worths, net=PLAIN):
        self.assertIs(shows_clean(net, weighting, ("clean", worths)), True)

    def wrong(self, weighting, worths, net=PLAIN):
        self.assertIs(shows_clean(net, weighting, ("clean", worths)), False, worths)

    def test_ordinary(self):
        self.right(BOTH, WORTHS)
        self.assertIs(shows_clean(net=PLAIN, weighting=BOTH, thing=("clean", WORTHS)), True)
        self.assertEqual(len(WORTHS), 11)

    def test_other_weightings(self):
        for weighting in (Weighting(a=1), Weighting(a=1, b=2), Weighting(a=1, b=-1), Weighting(),
                          Weighting(3, a=1, b=2)):
            self.wrong(weighting, WORTHS)
        for net in (KEPT, FRAIL, TWO):
            self.wrong(BOTH, WORTHS, net)
        self.right(Weighting(a=-1, b=-1), {key: -worth for key, worth in WORTHS.items()})

    def test_one_worth_otherwise(self):
        for key in WORTHS:
            for other in (WORTHS[key] + 1, WORTHS[key] - 1, 10 ** 60, None, True, False, "1", (1,), [], {},
                          Weighting()):
                self.wrong(BOTH, {**WORTHS, key: other})

    def test_one_key_less(self):
        for key in WORTHS:
            self.wrong(BOTH, {other: WORTHS[other] for other in WORTHS if other != key})
        self.wrong(BOTH, {})
        self.wrong(BOTH, [])

    def test_keys_that_no_course_needs(self):
        for key, worth in FREE.items():
            needed = {other: FREE[other] for other in FREE if other[0] != "g"}
            self.right(BOTH, {**WORTHS, **needed, key: worth})
            self.wrong(BOTH, {**WORTHS, **needed, key: worth + 1})
        self.right(BOTH, {**WORTHS, **FREE})
        # The rules hold for all keys, so what follows from a key must be told, too.
        net = Net.of([*[PLAIN[name] for name in ("d", "j", "q", "a", "b")], Door("e", "j", "k")])
        self.wrong(BOTH, WORTHS, net)
        self.right(BOTH, {**WORTHS, ("e", "k", "k"): 0}, net)
        self.wrong(BOTH, {**WORTHS, ("e", "k", "k"): 1}, net)
        self.right(BOTH, {**WORTHS, ("e", "k", "k"): 0, ("e", "zz", "zz"): 0}, net)
        self.wrong(BOTH, {**WORTHS, ("e", "k", "k"): 0, ("e", "zz", "zz"): 1}, net)
        # From (k, None) at e follow (v, None) at g and others.
        self.wrong(BOTH, {**WORTHS, ("e", "k", "k"): 0, ("e", "k", None): 1}, net)
        self.wrong(BOTH, {**WORTHS, ("e", "k", "k"): 0, ("e", "k", None): 1, ("g", "u", None): 1}, net)
        self.right(BOTH, {**WORTHS, ("e", "k", "k"): 0, ("e", "k", None): 1, ("g", "u", None): 1, ("g", "v", None): 0},
                   net)

    def test_keys_of_other_kinds(self):
        for key in [("g", None, None), ("zz", "u", "u"), ("j", "u", "u"), ("a", "o", "o"), ("g", "u"), ("g", "A", "u"),
                    ("g", "u", 1), ("g", True, "u"), ("g", "self", None), ("g", ("u",), "u"), "g", None, True, 0, (),
                    ("g", "u", "u", "u"), (None, "u", "u"), ("g", "", "u"), ("g", "u\n", None)]:
            self.wrong(BOTH, {**WORTHS, key: 0})

    def test_with_a_modulus(self):
        for modulo in (2, 3, 10):
            weighting = Weighting(modulo, a=1, b=1)
            for add in (0, modulo, -5 * modulo):
                self.right(weighting, {key: worth + add for key, worth in WORTHS.items()})
                for key in WORTHS:
                    self.right(weighting, {**WORTHS, key: WORTHS[key] + add})
                    self.wrong(weighting, {**WORTHS, key: WORTHS[key] + 1})
        # Without the modulus what is the same must be equal.
        self.wrong(BOTH, {key: worth + 2 for key, worth in WORTHS.items()})
        self.right(Weighting(2, a=2), {key: 0 for key in WORTHS})
        self.right(Weighting(), {key: 0 for key in WORTHS})

    def test_courses(self):
        for net in (PLAIN, KEPT, FRAIL):
            for told in every_course(net):
                course = Course.of(net, told.door, told.kind, told.choices)
                for weighting in (Weighting(a=1), BOTH, Weighting(2, a=1, b=-1), Weighting(3, b=2), Weighting()):
                    for shows in (shows_clean, shows_level):
                        self.assertIs(shows(net, weighting, ("drifts", course)), weighting(told.drift) != 0)

    def test_courses_of_other_nets(self):
        course = Course(PLAIN, "d", "k", j=("one", "two"))
        self.assertIs(shows_clean(PLAIN, Weighting(a=1), ("drifts", course)), True)
        self.assertIs(shows_clean(Net.read(str(PLAIN)), Weighting(a=1), ("drifts", course)), True)
        for net in (KEPT, FRAIL, PLAIN.as_keeper("j"), PLAIN.with_book("q", "more", Book())):
            self.assertIs(shows_clean(net, Weighting(a=1), ("drifts", course)), False)
            self.assertIs(shows_level(net, Weighting(a=1), ("drifts", course)), False)

    def test_any_values(self):
        course = Course(PLAIN, "d", "k", j=("one", "two"))
        for shows in (shows_clean, shows_level):
            for value in NO_NAMES + ["clean", ("clean",), ("clean", None), ("clean", WORTHS, NUMBERS),
                                     ["clean", WORTHS], ("Clean", WORTHS), (True, WORTHS), WORTHS, (WORTHS, "clean"),
                                     ("drifts",), ("clean", list(WORTHS)), ("clean", tuple(WORTHS.items())),
                                     ("drifts", None), ("drifts", course, course), ["drifts", course],
                                     ("drifts", (course,)), course, ("level", WORTHS), ("clean", course),
                                     ("drifts", WORTHS)]:
                self.assertIs(shows(PLAIN, BOTH, value), False)
            for value in [("drifts",), ("drifts", course, course), ["drifts", course], ("drifts", (course,)), course,
                          ("Drifts", course), (course, "drifts"), (None, course), ("clean", course), {"drifts": course}]:
                self.assertIs(shows(PLAIN, Weighting(a=1), value), False)
            for value in ODD + [1, "x"]:
                self.assertIs(shows(PLAIN, Weighting(a=1), ("drifts", value)), False)
                if value != {}:
                    self.assertIs(shows(PLAIN, BOTH, ("clean", value)), False)

    def test_nets_without_doors(self):
        for net in (Net(), Net(Station("s", {}, ("x", Book())), Tally("a"))):
            self.assertIs(shows_clean(net, Weighting(), ("clean", {})), True)
            self.assertIs(shows_level(net, Weighting(), ("level", {}, {})), True)
            self.assertIs(shows_level(net, Weighting(), ("clean", {})), False)

    def test_unknown_names(self):
        for net, weighting, name in ((PLAIN, Weighting(a=1, c=1, z=1), "c"), (PLAIN, Weighting(z=1, j=1, c=0), "j"),
                                     (PLAIN, Weighting(2, z=1, y=2), "z"), (Net(), Weighting(a=1), "a")):
            for shows in (shows_clean, shows_level):
                for value in NO_NAMES + [("clean", WORTHS), ("drifts", Course(PLAIN, "d", "k")), ("level", {}, {})]:
                    self.refused(UnknownName, {"name": name}, shows, net, weighting, value)
        self.assertIs(shows_clean(PLAIN, Weighting(2, z=2), ("clean", {key: 0 for key in WORTHS})), True)

    def test_nothing_is_changed(self):
        worths = dict(WORTHS)
        shows_clean(PLAIN, Weighting(2, a=1, b=1), ("clean", worths))
        self.assertEqual(worths, WORTHS)

    def test_small_nets(self):
        chance = random.Random(51)
        seen = {True: 0, False: 0}
        for _ in range(120):
            net = small_net(chance, 300)
            told = list(every_course(net))
            for _ in range(3):
                weighting = weighting_by(chance, net)
                is_clean = all(weighting(course.drift) == 0 for course in told)
                worths = needed_from(net, worths_of(net, weighting))
                self.assertIs(shows_clean(net, weighting, ("clean", worths)), is_clean)
                seen[is_clean] += 1
        self.assertGreater(min(seen.values()), 50)


class TestShowsLevel(Case):
    def right(self, weighting, numbers, net=PLAIN, worths=None):
        thing = ("level", WORTHS if worths is None else worths, numbers)
        self.assertIs(shows_level(net, weighting, thing), True)

    def wrong(self, weighting, numbers, net=PLAIN, worths=None):
        thing = ("level", WORTHS if worths is None else worths, numbers)
        self.assertIs(shows_level(net, weighting, thing), False, numbers)

    def test_ordinary(self):
        self.right(BOTH, NUMBERS)
        self.assertIs(shows_level(net=PLAIN, weighting=BOTH, thing=("level", WORTHS, NUMBERS)), True)
        self.assertIs(shows_clean(PLAIN, BOTH, ("level", WORTHS, NUMBERS)), False)
        self.assertIs(shows_level(PLAIN, BOTH, ("clean", WORTHS)), False)
        self.assertIs(shows_level(PLAIN, BOTH, ["level", WORTHS, NUMBERS]), False)
        self.assertIs(shows_level(PLAIN, BOTH, ("level", NUMBERS, WORTHS)), False)

    def test_worths_count_too(self):
        for key in WORTHS:
            self.wrong(BOTH, NUMBERS, worths={**WORTHS, key: WORTHS[key] + 1})
            self.wrong(BOTH, NUMBERS, worths={other: WORTHS[other] for other in WORTHS if other != key})
        self.wrong(BOTH, NUMBERS, worths={})
        self.wrong(BOTH, NUMBERS, worths=[])

    def test_one_number_otherwise(self):
        for key in NUMBERS:
            for other in (NUMBERS[key] + 1, NUMBERS[key] - 1, None, True, False, "1", (1,), [], {}):
                self.wrong(BOTH, {**NUMBERS, key: other})

    def test_one_key_less(self):
        for key in NUMBERS:
            self.wrong(BOTH, {other: NUMBERS[other] for other in NUMBERS if other != key})
        for value in NO_NAMES + [list(NUMBERS), tuple(NUMBERS.items())]:
            self.wrong(BOTH, value)

    def test_keys_that_no_course_needs(self):
        self.right(BOTH, {**NUMBERS, ("g", "zz"): 0, ("h", "u"): 0, ("s", "zz"): 0})
        for key in (("g", "zz"), ("h", "u"), ("s", "zz")):
            self.wrong(BOTH, {**NUMBERS, key: 1})
        net = Net.of([*[PLAIN[name] for name in ("d", "j", "q", "a", "b")], Door("e", "j", "k")])
        worths = {**WORTHS, ("e", "k", "k"): 0}
        self.wrong(BOTH, NUMBERS, net, worths)
        self.right(BOTH, {**NUMBERS, ("e", "k"): 1}, net, worths)
        self.wrong(BOTH, {**NUMBERS, ("e", "k"): 0}, net, worths)

    def test_keys_of_other_kinds(self):
        for key in [("g", None), ("zz", "u"), ("j", "u"), ("a", "o"), ("g",), ("g", "A"), ("g", 1), ("g", True),
                    ("g", "self"), ("g", ("u",)), "gu", "g", None, True, 0, (), ("g", "u", "u"), (None, "u"),
                    ("g", "")]:
            self.wrong(BOTH, {**NUMBERS, key: 0})

    def test_with_a_modulus(self):
        for modulo in (2, 5):
            weighting = Weighting(modulo, a=1, b=1)
            for key in NUMBERS:
                self.right(weighting, {**NUMBERS, key: NUMBERS[key] - 3 * modulo})
                self.wrong(weighting, {**NUMBERS, key: NUMBERS[key] + 1})

    def test_begins(self):
        for net in (PLAIN, KEPT, FRAIL):
            told = list(every_course(net))
            courses = [Course.of(net, one.door, one.kind, one.choices) for one in told]
            for weighting in (Weighting(a=1), BOTH, Weighting(2, a=1, b=-1), Weighting(3, b=2)):
                for one, course in zip(told, courses):
                    for other, second in zip(told, courses):
                        self.assertIs(shows_level(net, weighting, ("begins", course, second)),
                                      weighting(one.begin) != weighting(other.begin))
                        self.assertIs(shows_clean(net, weighting, ("begins", course, second)), False)

    def test_begins_of_other_doors_and_nets(self):
        net = Net.of([*[PLAIN[name] for name in ("j", "q", "a", "b")], Door("d", "j", "k", "l"), Door("e", "j", "k")])
        weighting = Weighting(a=1)
        one, other = Course(net, "d", "k"), Course(net, "d", "k", j=("two", "one"))
        self.assertIs(shows_level(net, weighting, ("begins", one, other)), True)
        self.assertIs(shows_level(net, weighting, ("begins", other, one)), True)
        for wrong in (Course(net, "e", "k", j=("two", "one")), Course(net, "d", "l", j=("two", "one")),
                      Course(net.as_keeper("q"), "d", "k", j=("two", "one")), one, None, (other,), "k"):
            self.assertIs(shows_level(net, weighting, ("begins", one, wrong)), False)
            self.assertIs(shows_level(net, weighting, ("begins", wrong, one)), False)
        for thing in (("begins", one), ("begins", one, other, other), ["begins", one, other], ("begins", (one, other)),
                      ("drifts", one, other), ("level", one, other)):
            self.assertIs(shows_level(net, weighting, thing), False)

    def test_begins_need_not_be_clean(self):
        one, other = Course(FRAIL, "d", "k"), Course(FRAIL, "d", "k", j=("two", "one"))
        self.assertIs(shows_level(FRAIL, Weighting(a=1), ("begins", one, other)), True)

    def test_small_nets(self):
        chance = random.Random(52)
        seen = {True: 0, False: 0}
        for _ in range(120):
            net = small_net(chance, 300)
            told = list(every_course(net))
            firsts = {}
            for course in told:
                firsts.setdefault((course.door, course.kind), course.begin)
            for _ in range(3):
                weighting = weighting_by(chance, net)
                is_level = all(weighting(course.drift) == 0 and weighting(course.begin) == weighting(
                    firsts[course.door, course.kind]) for course in told)
                worths = worths_of(net, weighting)
                numbers = {(wire, begin): worths[wire, begin, None] for wire, begin, end in needed_from(net, worths)
                           if begin is not None}
                thing = ("level", needed_from(net, worths), numbers)
                self.assertIs(shows_level(net, weighting, thing), is_level)
                seen[is_level] += 1
        self.assertGreater(min(seen.values()), 50)
