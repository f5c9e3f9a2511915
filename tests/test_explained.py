"""Tables explained: courses that leave them, or that no courses do, and histories that are made of courses."""

import itertools
import random

from evenends.courses import Course
from evenends.drifts import drifts
from evenends.errors import InvalidItem, TooMany, UnknownName
from evenends.explaincheck import shows_explained
from evenends.explained import explained, history
from evenends.forms import form, form_paper
from evenends.houses import House
from evenends.nets import Net
from evenends.parts import Door, Tally
from evenends.stations import Frail, Keeper, Station
from evenends.stories import played
from evenends.vectors import Vector
from tests.model import every_course, small_net
from tests.samples import FRAIL, KEPT, NO_NAMES, PLAIN, TWO, Case, spread, switch
from tests.test_at_rest import Leader
from tests.test_turned import chain

ITEM = ("d", "k")


def total(begins, closed):
    """What told courses add up to."""
    vectors = [course.begin for course in begins] + [course.drift * times for times, course in closed]
    return sum(vectors, Vector())


def can_show(net, lattice, table, items):
    """Whether a table is a sum of one begin of each item and of drifts, by all courses."""
    rows = [{str(lattice.reduced(course.begin)): course.begin for course in every_course(net)
             if (course.door, course.kind) == item} for item in items]
    return any(table - sum(some, Vector()) in lattice for some in itertools.product(*[row.values() for row in rows]))


class Explaining(Case):
    def look(self, net, table, items, expected=None):
        """Checks what is told of a table, and returns the first word of it."""
        told = explained(net, table, *items)
        self.assertEqual(told, explained(net, table, *items))
        self.assertIs(shows_explained(net, table, items, told), True)
        self.assertIs(shows_explained(net, table, list(items), told), True)
        self.assertIs(type(told), tuple)
        if told[0] == "left":
            self.left(net, table, items, told)
        else:
            paper = form_paper(net)
            self.assertEqual(told, ("never", drifts(net).basis, paper[0], paper[1]))
        if expected is not None:
            self.assertIs(told[0] == "left", expected, (str(net), str(table), items))
        return told[0]

    def left(self, net, table, items, told):
        _, begins, closed = told
        self.assertEqual((len(told), type(begins), type(closed)), (3, tuple, tuple))
        self.assertEqual([(course.net, course.door, course.kind) for course in begins],
                         [(net, *item) for item in items])
        self.assertTrue(all(type(times) is int and times >= 1 and course.net == net for times, course in closed))
        self.assertEqual(total(begins, closed), table)

    def items_of(self, net):
        return [(door, kind) for door in net.doors for kind in net[door].kinds]


class TestExplained(Explaining):
    def test_samples(self):
        for number in range(-3, 4):
            for other in range(-3, 4):
                table = Vector(a=number, b=other)
                self.look(PLAIN, table, (), number + other == 0)
                self.look(PLAIN, table, (ITEM,), number + other == 1)
                self.look(PLAIN, table, (ITEM, ITEM), number + other == 2)
                self.look(KEPT, table, (), number == 0)
                self.look(KEPT, table, (ITEM,), number in (0, 1))
                self.look(KEPT, table, (ITEM,) * 3, 0 <= number <= 3)
                self.look(FRAIL, table, (ITEM,), True)

    def test_by_name(self):
        self.assertEqual(explained(net=PLAIN, table=Vector())[0], "left")
        self.assertIs(shows_explained(net=PLAIN, table=Vector(), items=(), thing=("left", (), ())), True)

    def test_nothing_at_all(self):
        self.assertEqual(explained(Net(), Vector()), ("left", (), ()))
        self.assertEqual(explained(PLAIN, Vector()), ("left", (), ()))
        self.assertEqual(explained(Net(Tally("t")), Vector(t=1)), ("never", (), {}, {}))

    def test_small_nets(self):
        chance = random.Random(131)
        words = []
        for _ in range(50):
            net = small_net(chance, 300)
            lattice, courses = drifts(net), list(every_course(net))
            for _ in range(6):
                some = chance.sample(courses, min(len(courses), chance.choice([0, 1, 1, 2, 3])))
                items = tuple((course.door, course.kind) for course in some)
                table = sum([course.begin for course in some], Vector())
                for course in chance.sample(courses, min(4, len(courses))):
                    table = table + course.drift * chance.choice([1, -1, 5, 10 ** 40])
                self.assertEqual(self.look(net, table, items), "left")
                near = table + Vector.of({chance.choice(net.tallies): chance.choice([1, -1, 2])})
                words.append(self.look(net, near, items, can_show(net, lattice, near, items)))
                small = Vector.of({name: chance.randint(-3, 3) for name in net.tallies})
                words.append(self.look(net, small, items, can_show(net, lattice, small, items)))
        self.assertGreater(words.count("left"), 50)
        self.assertGreater(words.count("never"), 50)

    def test_tables_of_many_digits(self):
        far = 7 * 10 ** 49
        self.look(PLAIN, Vector(a=far, b=-far), (), True)
        self.look(PLAIN, Vector(a=far, b=1 - far), (), False)
        self.look(KEPT, Vector(a=12, b=-far), (ITEM,) * 12, True)
        self.look(switch(999983), Vector(t=999983 * far), (ITEM,), True)
        self.look(switch(999983), Vector(t=999983 * far + 1), (ITEM,), False)

    def test_twelve_items(self):
        for number in range(-2, 15):
            self.look(KEPT, Vector(a=number, b=3), (ITEM,) * 12, 0 <= number <= 12)
        net = spread(k=[1, 2, 3], l=[0, 10], m=[5])
        items = (("d", "k"), ("d", "l"), ("d", "m")) * 4
        for number in (23, 24, 32, 64, 72, 73):
            self.look(net, Vector(t=number), items, 24 <= number <= 32 or 64 <= number <= 72)
        self.look(chain([Keeper, Frail, Station], 2), Vector(), (), True)

    def test_order_of_items(self):
        net = spread(k=[1, 2], l=[10, 20])
        for items in itertools.product((("d", "k"), ("d", "l")), repeat=3):
            for numbers in itertools.product((1, 2), repeat=3):
                table = Vector(t=sum(number if kind == "k" else number * 10
                                     for number, (door, kind) in zip(numbers, items)))
                self.look(net, table, items, True)

    def test_what_is_told_is_new(self):
        told = explained(PLAIN, Vector(a=1))
        told[2].clear()
        told[3].clear()
        self.assertEqual(explained(PLAIN, Vector(a=1))[2:], form_paper(PLAIN)[:2])


class TestErrors(Explaining):
    def refuses(self, kind, fields, net, table, items):
        self.refused(kind, fields, explained, net, table, *items)
        if kind is not TooMany:
            for told in (("left", (), ()), None, explained(PLAIN, Vector())):
                for row in (list(items), tuple(items)):
                    self.refused(kind, fields, shows_explained, net, table, row, told)

    def test_names(self):
        for table, name in ((Vector(c=1), "c"), (Vector(d=1, a=2), "d"), (Vector(zz=1, q=2, j=3), "j"),
                            (Vector(a=1, g=-1, b=1), "g")):
            self.refuses(UnknownName, {"name": name}, PLAIN, table, [])
            self.refuses(UnknownName, {"name": name}, PLAIN, table, [None, ITEM])
        self.refuses(UnknownName, {"name": "a"}, Net(), Vector(a=1), [])

    def test_items(self):
        odd = NO_NAMES + [("d",), ("d", "k", "k"), ["d", "k"], ("k", "d"), ("a", "k"), ("j", "k"), ("g", "k"),
                          ("d", "o"), ("d", None), (None, "k"), (["d"], "k"), ("d", ["k"]), ("d", True), {"d": "k"},
                          "dk", ("D", "k"), (ITEM,), ("d", ("k",)), ({}, {})]
        for value in odd:
            self.refuses(InvalidItem, {"index": 0}, PLAIN, Vector(a=5), [value])
            self.refuses(InvalidItem, {"index": 2}, KEPT, Vector(), [ITEM, ITEM, value, None])

    def test_too_many_residues(self):
        many = spread(k=list(range(101)), l=[0])
        for items in ([], [("d", "k")], [("d", "l")]):
            self.refuses(TooMany, {"limit": 100}, many, Vector(), items)
        self.refuses(UnknownName, {"name": "u"}, many, Vector(u=1), [None])
        self.refuses(InvalidItem, {"index": 1}, many, Vector(), [("d", "l"), ("d", "m")])
        # The other residues may stand at another door, or at a kind that no item has.
        doors = [many[name] for name in many.stations + many.tallies] + [Door("d", "s", "k"), Door("e", "t", "l")]
        self.refuses(TooMany, {"limit": 100}, Net.of(doors), Vector(), [("e", "l")])
        self.assertEqual(explained(spread(k=list(range(100)), l=[0]), Vector(t=99), ("d", "k"))[0], "left")

    def test_too_many_sums(self):
        # Three items have just 1,000 sums, and a fourth one of one residue more only moves them.
        net = spread(k=list(range(10)), l=[10 * number for number in range(10)],
                     m=[100 * number for number in range(10)], n=[7], o=[0, 1])
        items = [("d", "k"), ("d", "l"), ("d", "m"), ("d", "n")]
        for number in (7, 8, 555, 1006):
            self.look(net, Vector(t=number), tuple(items), True)
        for number in (6, 1007, -1):
            self.look(net, Vector(t=number), tuple(items), False)
        items.append(("d", "o"))
        for number in (7, 100, 5000):
            self.refuses(TooMany, {"limit": 1000}, net, Vector(t=number), items)
            self.refuses(TooMany, {"limit": 1000}, net, Vector(t=number), items[::-1])
        self.refuses(InvalidItem, {"index": 5}, net, Vector(), [*items, ("d", "z")])

    def test_few_of_many_sums_differ(self):
        net = spread(k=list(range(84)))
        self.look(net, Vector(t=12 * 83), (("d", "k"),) * 12, True)
        self.refuses(TooMany, {"limit": 1000}, spread(k=list(range(85))), Vector(), [("d", "k")] * 12)


class TestHistories(Explaining):
    def play(self, net, begins, closed):
        """Plays a history, checks what it leaves and its order, and returns how many deeds it has."""
        deeds = history(net, begins, closed)
        self.assertEqual((type(deeds), deeds), (tuple, history(net, list(begins), list(closed))))
        house = played(net, deeds)
        self.assertTrue(house.is_at_rest)
        self.assertEqual(house.tallies, total(begins, closed))
        many = sum(times for times, course in closed)
        self.ascends(house.open_items, {many + place: (course.door, course.kind)
                                        for place, course in enumerate(begins)})
        opened = [place for place, deed in enumerate(deeds) if deed[0] == "open"]
        shut = [(place, deed[1]) for place, deed in enumerate(deeds) if deed[0] == "close"]
        self.assertEqual([number for place, number in shut], list(range(many)))
        # One closes before the next one opens.
        for number, (place, _) in enumerate(shut):
            self.assertLess(opened[number], place)
            self.assertTrue(all(later > place for later in opened[number + 1:]))
        if len(opened) > many:
            self.assertNotIn("restart", [deed[0] for deed in deeds[opened[many]:]])
        expected = sum(times * len(course.story()) for times, course in closed)
        self.assertEqual(len(deeds), expected + sum(len(course.story(closes=False)) for course in begins))
        return len(deeds)

    def test_samples(self):
        self.assertEqual(history(PLAIN, (), ()), ())
        told = explained(KEPT, Vector(a=1, b=2), ITEM, ITEM)
        self.assertEqual(list(played(KEPT, history(KEPT, told[1], told[2])).open_items.values()), [ITEM, ITEM])
        course = Course(FRAIL, "d", "k", j=("one", "two"), q=("only", "only", True))
        self.play(FRAIL, (course, course), ((3, course), (2, Course(FRAIL, "d", "k", j=("two", "one")))))
        self.play(net=FRAIL, begins=(), closed=((4, course),))

    def test_small_nets(self):
        chance = random.Random(132)
        for _ in range(60):
            net = small_net(chance)
            items = self.items_of(net)
            for _ in range(4):
                some = tuple(chance.choice(items) for _ in range(chance.randint(0, 4)))
                table = sum([chance.choice(form(net).residues[item]) for item in some], Vector())
                for vector in drifts(net).basis:
                    table = table + vector * chance.randint(-2, 2)
                told = explained(net, table, *some)
                self.assertEqual(told[0], "left")
                if sum(times for times, course in told[2]) < 60:
                    self.play(net, told[1], told[2])

    def test_too_many_deeds(self):
        course = Course(PLAIN, "d", "k", j=("one", "two"))
        size, short = len(course.story()), len(course.story(closes=False))
        for many in (0, 1, 3):
            most = (2000 - many * short) // size
            begins = (course,) * many
            self.play(PLAIN, begins, ((most, course),))
            for closed in (((most + 1, course),), ((1, course), (most, course)), ((10 ** 50, course),)):
                self.refused(TooMany, {"limit": 2000}, history, PLAIN, begins, closed)

    def test_just_two_thousand_deeds(self):
        # Where a door leads to a tally, the story of an item is to open, settle, close and settle.
        net = Net(Door("d", "t", "k"), Tally("t", k=1))
        course = Course(net, "d", "k")
        for many, most in ((0, 500), (2, 499), (1000, 0)):
            self.assertEqual(self.play(net, (course,) * many, ((most, course),) if most else ()), 2000)
            self.refused(TooMany, {"limit": 2000}, history, net, (course,) * (many + 1),
                         ((most, course),) if most else ())
            self.refused(TooMany, {"limit": 2000}, history, net, (course,) * many, ((most + 1, course),))

    def test_far_tables(self):
        told = explained(PLAIN, Vector(a=10 ** 50, b=-10 ** 50))
        self.assertEqual(told[0], "left")
        self.refused(TooMany, {"limit": 2000}, history, PLAIN, told[1], told[2])


class TestHouses(Explaining):
    def lead(self, chance, net, rounds):
        leader = Leader(chance, net)
        for _ in range(rounds):
            for _ in range(chance.randint(1, 25)):
                leader.step()
            leader.rest(chance.choice([0, 1, 2, 3]))
            house = leader.house
            self.look(net, house.tallies, tuple(house.open_items.values()), True)

    def test_what_is_left_is_explained(self):
        chance = random.Random(133)
        for net in (PLAIN, KEPT, FRAIL, TWO, PLAIN.as_keeper("j")):
            self.lead(chance, net, 15)
        for _ in range(40):
            self.lead(chance, small_net(chance), 4)

    def test_what_is_explained_can_be_played_behind_a_story(self):
        chance = random.Random(134)
        for _ in range(30):
            net = small_net(chance)
            leader = Leader(chance, net)
            for _ in range(30):
                leader.step()
            leader.rest(2)
            items = tuple(leader.house.open_items.values())
            told = explained(net, leader.house.tallies, *items)
            if sum(times for times, course in told[2]) < 40:
                house = House(net)
                house.do(*history(net, told[1], told[2]))
                self.assertEqual((house.tallies, tuple(house.open_items.values())), (leader.house.tallies, items))
