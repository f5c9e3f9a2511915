"""Turned courses, and the stories of courses."""

import random

from evenends.books import Book
from evenends.courses import Course
from evenends.houses import House
from evenends.nets import Net
from evenends.parts import Door, Tally
from evenends.stations import Frail, Keeper, Station
from evenends.stories import played, read_story, story_text
from evenends.vectors import Vector
from tests.model import choices_of, small_net
from tests.samples import FRAIL, KEPT, PLAIN, Case

LETTERS = "abcdefghij"


def chain(sorts, books=2):
    """Stations of these sorts in a row; each has a tally of its own, which every second book leaves out."""
    parts = [Door("d", "sa", "k")]
    for place, sort in enumerate(sorts):
        letter = LETTERS[place]
        wires = {"u" + letter: "t" + letter}
        if place + 1 < len(sorts):
            wires["w" + letter] = "s" + LETTERS[place + 1]
        shelf = []
        for number in range(books):
            rows = {kind: {"w" + letter: "kl"[(number + step) % 2]} for step, kind in enumerate("kl")}
            if number % 2 == 0:
                rows = {kind: {**rows[kind], "u" + letter: kind} for kind in rows}
            shelf.append(("xyz"[number], Book.of({kind: {wire: row[wire] for wire in row if wire in wires}
                                                  for kind, row in rows.items()})))
        parts += [sort("s" + letter, wires, *shelf), Tally("t" + letter, k=10 ** place, l=3 * 10 ** place)]
    return Net(*parts)


def random_course(chance, net):
    door = chance.choice(net.doors)
    choices = {name: chance.choice(choices_of(net[name])) for name in net.stations}
    return Course.of(net, door, chance.choice(net[door].kinds), choices)


class TestTurned(Case):
    def look(self, course):
        """Checks what is told of turned courses; returns how many there are."""
        told = course.turned()
        self.assertIs(type(told), tuple)
        total = Vector()
        for other in told:
            self.assertIs(type(other), Course)
            self.assertEqual((other.net, other.door, other.kind), (course.net, course.door, course.kind))
            total = total + other.drift
        self.assertEqual(total, -course.drift)
        keepers = [name for name in course.passed if course.net[name].KIND != "station"]
        self.assertLessEqual(len(told), len(keepers) + 1)
        if not course.drift:
            self.assertEqual(told, ())
        return len(told)

    def test_plain_stations(self):
        course = Course(PLAIN, "d", "k", j=("one", "two"))
        self.assertEqual(self.look(course), 1)
        self.assertEqual(course.turned()[0].drift, Vector(a=-1, b=1))

    def test_no_drift(self):
        for course in (Course(PLAIN, "d", "k"), Course(PLAIN, "d", "k", j=("two", "two")),
                       Course(KEPT.as_keeper("j"), "d", "k", j=("one", "two"))):
            self.assertEqual(course.turned(), ())

    def test_one_keeper(self):
        for net in (KEPT, FRAIL):
            self.look(Course(net, "d", "k", j=("one", "two")))
            self.look(Course(net, "d", "k", j=("two", "one")))
        self.look(Course(FRAIL, "d", "k", j=("one", "two"), q=("only", "only", True)))

    def test_drifts_that_cancel(self):
        # Above the keeper and below it something is left, together nothing.
        books = [("x", Book(k={"m": "k", "w": "k"})), ("y", Book(k={"m": "k"}))]
        below = [("x", Book(k={"n": "k"})), ("y", Book(k={"v": "k"}))]
        net = Net(Door("d", "p", "k"), Station("p", {"m": "q", "w": "t"}, *books),
                  Keeper("q", {"r": "s"}, ("x", Book(k={"r": "k"}))),
                  Station("s", {"n": "t", "v": "z"}, *below), Tally("t", k=1), Tally("z"))
        course = Course(net, "d", "k", p=("y", "x"), s=("x", "y"))
        self.assertEqual((course.drift, course.turned()), (Vector(), ()))
        self.assertEqual(self.look(course.with_choice("p", ("x", "x"))), 1)
        self.assertEqual(self.look(course.with_choice("p", ("x", "y"))), 2)

    def test_keepers_below_one_another(self):
        chance = random.Random(5)
        most = 0
        for sorts in ([Station, Keeper, Station], [Station, Keeper, Station, Keeper, Station],
                      [Station, Frail, Station, Keeper, Station, Frail, Station], [Frail] * 6, [Keeper] * 5,
                      [Station, Keeper] * 5, [Station, Frail] * 5):
            net = chain(sorts, 3)
            for _ in range(60):
                most = max(most, self.look(random_course(chance, net)))
        # The drifts on each side of five keepers can only be turned one by one.
        self.assertEqual(most, 5)

    def test_one_more_than_the_keepers(self):
        net = chain([Station, Keeper, Station, Keeper, Station])
        course = Course(net, "d", "k", sa=("x", "y"), sc=("x", "y"), se=("x", "y"))
        self.assertEqual(course.passed, ("sa", "sb", "sc", "sd", "se"))
        self.assertEqual(self.look(course), 3)

    def test_two_branches(self):
        rows = {"k": {"m": "k", "n": "k"}, "l": {"m": "l"}}
        low = [("x", Book(k={"u": "k"})), ("y", Book(l={"u": "l"}, k={"u": "l"}))]
        other = [("x", Book(k={"v": "k"})), ("y", Book(k={"v": "l"}))]
        for one, two in ((Keeper, Keeper), (Keeper, Station), (Frail, Keeper)):
            net = Net(Door("d", "p", "k"), Station("p", {"m": "q", "n": "r"}, ("x", Book(**rows)),
                                                   ("y", Book(k={"m": "l"}))),
                      one("q", {"g": "e"}, ("x", Book(k={"g": "k"}, l={"g": "l"}))),
                      two("r", {"h": "f"}, ("x", Book(k={"h": "k"}))),
                      Station("e", {"u": "t"}, *low), Station("f", {"v": "z"}, *other),
                      Tally("t", k=1, l=5), Tally("z", k=1, l=7))
            for first in "xy":
                for second in "xy":
                    for branch in "xy":
                        course = Course.of(net, "d", "k", {"p": ("x", first), "e": ("x", second), "f": ("x", branch)})
                        self.look(course)
                        self.look(course.with_choice("p", (first, "x")))

    def test_small_nets(self):
        chance = random.Random(6)
        turned = 0
        for _ in range(250):
            net = small_net(chance)
            for _ in range(8):
                turned += self.look(random_course(chance, net)) > 0
        self.assertGreater(turned, 200)


class TestStories(Case):
    def look(self, chance, course):
        """Plays the story of a course in a house at rest in which other items are open."""
        net = course.net
        house = House(net)
        opened = chance.randint(0, 4)
        for _ in range(opened):
            door = chance.choice(net.doors)
            house.open_item(door, chance.choice(net[door].kinds))
            for name in net.stations:
                house.use(name, chance.choice(net[name].books))
            house.settle()
        before, items = house.tallies, house.open_items
        most = 2 * len(net.wires) + 3 * len(net.stations) + 2
        twin = house.twin()
        deeds = course.story(opened)
        self.assertIs(type(deeds), tuple)
        self.assertLessEqual(len(deeds), most)
        self.assertEqual(house.do(*deeds)[0], opened)
        self.assertTrue(house.is_at_rest)
        self.assertEqual((house.tallies - before, house.open_items), (course.drift, items))
        deeds = course.story(number=opened, closes=False)
        self.assertLessEqual(len(deeds), most)
        self.assertFalse([deed for deed in deeds if deed[0] in ("restart", "close")])
        twin.do(*deeds)
        self.assertTrue(twin.is_at_rest)
        self.assertEqual(twin.tallies - before, course.begin)
        self.assertEqual(twin.open_items, {**items, opened: (course.door, course.kind)})
        return course.story(opened)

    def test_ordinary(self):
        course = Course(PLAIN, "d", "k", j=("one", "two"))
        self.assertEqual(course.story(), course.story(0))
        self.assertEqual(course.story(closes=True), course.story(number=0))
        self.assertEqual(played(PLAIN, course.story()).tallies, Vector(a=1, b=-1))
        self.assertEqual(played(PLAIN, course.story(closes=False)).tallies, Vector(a=1))

    def test_words(self):
        for closes in (True, False):
            deeds = Course(FRAIL, "d", "k", j=("one", "two"), q=("only", "only", True)).story(7, closes=closes)
            self.assertEqual(deeds[0], ("open", "d", "k"))
            self.assertEqual([deed for deed in deeds if deed[0] == "close"], [("close", 7)] * closes)
            self.assertEqual(read_story(story_text(deeds)), deeds)

    def test_a_door_at_a_tally(self):
        net = Net(Door("d", "t", "k"), Tally("t", k=7))
        chance = random.Random(1)
        self.look(chance, Course(net, "d", "k"))

    def test_closes_is_passed_by_name(self):
        with self.assertRaises(TypeError):
            Course(PLAIN, "d", "k").story(0, False)

    def test_samples(self):
        chance = random.Random(2)
        for net in (PLAIN, KEPT, FRAIL):
            for choice in choices_of(net["j"]):
                for other in choices_of(net["q"]):
                    self.look(chance, Course(net, "d", "k", j=choice, q=other))

    def test_chains(self):
        chance = random.Random(3)
        restarts = 0
        for sorts in ([Frail] * 8, [Station] * 8, [Frail, Station, Keeper] * 3):
            net = chain(sorts, 3)
            for _ in range(40):
                restarts += "restart" in [deed[0] for deed in self.look(chance, random_course(chance, net))]
        self.assertGreater(restarts, 20)

    def test_small_nets(self):
        chance = random.Random(4)
        for _ in range(200):
            net = small_net(chance)
            for _ in range(5):
                self.look(chance, random_course(chance, net))

    def test_no_more_than_is_needed(self):
        # A restart makes other items forgotten, too, so it is left out where nothing is to be forgotten.
        course = Course(FRAIL, "d", "k", j=("two", "two"), q=("only", "only", True))
        self.assertNotIn(("restart", "j"), course.story())
        course = Course(FRAIL, "d", "k", q=("only", "only", False))
        self.assertNotIn(("restart", "q"), course.story())
        net = FRAIL.with_book("j", "none", Book())
        for choice in (("one", "none"), ("none", "one")):
            course = Course(net, "d", "k", j=choice, q=("only", "only", True))
            self.assertNotIn(("restart", "q"), course.story())
        # Books that nothing passes are not put in force, nor are those that are in force already.
        course = Course(FRAIL, "d", "k", j=("two", "one"), q=("only", "only"))
        self.assertEqual(course.story().count(("book", "q", "only")), 1)
        course = Course(net, "d", "k", j=("one", "one"))
        self.assertEqual(course.story(), (("open", "d", "k"), ("book", "j", "one"), ("book", "q", "only"), ("settle",),
                                          ("close", 0), ("settle",)))

    def test_nothing_is_changed(self):
        course = Course(PLAIN, "d", "k", j=("one", "two"))
        one, other = course.story(3), course.story(3)
        self.assertEqual(one, other)
        self.assertEqual(course.turned(), course.turned())
        self.assertEqual(course, Course(PLAIN, "d", "k", j=("one", "two")))
