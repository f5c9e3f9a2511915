"""What shows that a net can show a table, or that it cannot, and what shows neither."""

import random

from evenends.books import Book
from evenends.courses import Course
from evenends.errors import InvalidItem, UnknownName
from evenends.explaincheck import shows_explained
from evenends.explained import explained
from evenends.forms import form, form_paper
from evenends.lattices import Lattice
from evenends.nets import Net
from evenends.parts import Door, Tally
from evenends.stations import Keeper, Station
from evenends.vectors import Vector
from evenends.weightings import Weighting
from tests.model import small_net
from tests.samples import FRAIL, KEPT, NO_NAMES, ODD, PLAIN, TWO, Case, spread, switch

ITEM = ("d", "k")
ONE_TWO, TWO_ONE = {"j": ("one", "two")}, {"j": ("two", "one")}


class Showing(Case):
    def use(self, net, table, *items):
        self.net, self.table, self.items = net, table, items
        self.told = explained(net, table, *items)

    def shows(self, thing, table=None, items=None):
        items = self.items if items is None else items
        return shows_explained(self.net, self.table if table is None else table, items, thing)

    def right(self, thing, **more):
        self.assertIs(self.shows(thing, **more), True, thing)

    def wrong(self, thing, **more):
        self.assertIs(self.shows(thing, **more), False, thing)

    def exchanged(self, place, value):
        return self.told[:place] + (value,) + self.told[place + 1:]

    def any_values(self):
        told = self.told
        self.right(told)
        for value in NO_NAMES + [list(told), told[:-1], told + ((),), told[::-1], (told,), (told[1:], told[0]),
                                 dict(enumerate(told)), told[1:], told[0]]:
            self.wrong(value)
        for place in range(len(told)):
            for value in NO_NAMES + [told, list(told[place]), (told[place],), Lattice(), Weighting(), "left", "never",
                                     "Left", "never ", (None,), ((1,),), {("d", "k"): ()}]:
                if value != told[place] or type(value) is not type(told[place]):
                    self.wrong(self.exchanged(place, value))


class TestLeft(Showing):
    def setUp(self):
        self.use(KEPT, Vector(a=1, b=2), ITEM, ITEM)

    def test_any_values(self):
        self.assertEqual(self.told[0], "left")
        self.any_values()
        self.use(PLAIN, Vector())
        self.assertEqual(self.told, ("left", (), ()))
        self.any_values()

    def test_other_tables(self):
        _, begins, closed = self.told
        for table in (Vector(a=1, b=3), Vector(a=1, b=1), Vector(a=2, b=2), Vector(b=2), Vector()):
            self.wrong(self.told, table=table)
        # Closed courses that add up otherwise show the other table.
        more = closed + ((1, Course.of(KEPT, "d", "k", ONE_TWO)),)
        self.right(("left", begins, more), table=Vector(a=1, b=1))
        self.wrong(("left", begins, more))

    def test_other_items(self):
        two = spread(k=[1, 2], l=[1, 5])
        self.use(two, Vector(t=3), ("d", "k"), ("d", "l"))
        self.right(self.told)
        self.right(self.told, items=list(self.items))
        for items in ((), (("d", "k"),), (("d", "l"), ("d", "k")), (("d", "k"),) * 2, (("d", "k"), ("d", "l")) * 2):
            self.wrong(self.told, items=items)
        swapped = ("left", self.told[1][::-1], self.told[2])
        self.wrong(swapped)
        self.right(swapped, items=(("d", "l"), ("d", "k")))

    def test_other_courses(self):
        word, begins, closed = self.told
        for course in (Course(PLAIN, "d", "k"), Course(FRAIL, "d", "k"), None, begins, "course", ITEM):
            self.wrong((word, (course, begins[1]), closed))
            self.wrong((word, begins, closed + ((1, course),)))
        self.wrong((word, begins[:1], closed))
        self.wrong((word, begins + begins[:1], closed))
        self.wrong((word, list(begins), closed))
        self.wrong((word, begins, list(closed)))
        # The begins of any courses will do, as long as all adds up.
        first, second = Course(KEPT, "d", "k"), Course(KEPT, "d", "k", j=("two", "one"))
        self.assertEqual([str(first.begin), str(second.begin)], ["a=1", "b=1"])
        self.right((word, (first, second), ((1, Course.of(KEPT, "d", "k", TWO_ONE)),)))
        self.right((word, (second, first), ((1, Course.of(KEPT, "d", "k", TWO_ONE)),)))
        self.wrong((word, (first, first), ((1, Course.of(KEPT, "d", "k", TWO_ONE)),)))
        self.right((word, (first, second), ((1, Course.of(Net.read(str(KEPT)), "d", "k", TWO_ONE)),)))

    def test_other_times(self):
        up, down = Course.of(KEPT, "d", "k", TWO_ONE), Course.of(KEPT, "d", "k", ONE_TWO)
        begins = (Course(KEPT, "d", "k"), Course(KEPT, "d", "k", j=("two", "two")))
        self.assertEqual([str(up.drift), str(down.drift)], ["b=1", "b=-1"])
        far = 10 ** 50
        for closed in (((1, up),), ((3, up), (2, down)), ((far + 1, up), (far, down)), ((far, down), (far + 1, up)),
                       ((1, up), (7, Course(KEPT, "d", "k"))), ((1, down), (1, up), (1, up))):
            self.right(("left", begins, closed))
        for closed in ((), ((2, up),), ((1, down),), ((-1, down),), ((0, up),), ((True, up),), ((1, up), (0, up)),
                       ((1, up), (False, up)), ((1, up), (-1, down), (1, down)), ([1, up],), ((1,),), ((1, up, up),),
                       (1, up), (up,), (("1", up),), ((up, 1),), ((1, up), ()), ((1, up), None)):
            self.wrong(("left", begins, closed))

    def test_of_other_nets(self):
        for net in (PLAIN, FRAIL, KEPT.as_keeper("j"), KEPT.with_book("q", "more", Book())):
            self.assertIs(shows_explained(net, self.table, self.items, self.told), False)
        self.assertIs(shows_explained(Net.read(str(KEPT)), self.table, self.items, self.told), True)

    def test_small_nets(self):
        chance = random.Random(141)
        for _ in range(40):
            net = small_net(chance)
            key = chance.choice(list(form(net).residues))
            table = chance.choice(form(net).residues[key])
            for vector in form(net).lattice.basis:
                table = table + vector * chance.randint(-3, 3)
            self.use(net, table, key)
            self.right(self.told)
            _, begins, closed = self.told
            for place, (times, course) in enumerate(closed):
                self.wrong(("left", begins, closed[:place] + closed[place + 1:]))
                self.wrong(("left", begins, closed[:place] + ((times + 1, course),) + closed[place + 1:]))
            self.right(("left", begins, closed[::-1]))
            self.right(("left", begins, closed + ((9, Course(net, *key)),)))
            self.wrong(self.told, table=table + Vector.of({chance.choice(net.tallies): 1}))


class TestNever(Showing):
    def setUp(self):
        self.use(KEPT, Vector(a=2), ITEM)

    def test_any_values(self):
        self.assertEqual(self.told[0], "never")
        self.any_values()

    def test_other_tables_and_items(self):
        for table in (Vector(), Vector(a=1), Vector(b=9), Vector(a=1, b=-5)):
            self.wrong(self.told, table=table)
        for table in (Vector(a=2, b=1), Vector(a=-1), Vector(a=3), Vector(a=10 ** 50)):
            self.right(self.told, table=table)
        for many in range(6):
            self.assertIs(self.shows(self.told, items=[ITEM] * many), many < 2)
            self.assertIs(self.shows(self.told, items=[ITEM] * many, table=Vector(a=-1)), True)

    def test_other_lattices(self):
        word, basis, worths, begins = self.told
        self.assertEqual(basis, (Vector(b=1),))
        # What is made of more vectors is larger, and the table must not be in it.
        for other in ((Vector(b=-1),), (Vector(b=1), Vector(b=1)), (Vector(b=3), Vector(b=2)),
                      (Vector(b=1), Vector(a=3)), (Vector(b=1), Vector(a=3, b=7)), (Vector(), Vector(b=1)),
                      (Vector(b=1), Vector(z=1))):
            self.right((word, other, worths, begins))
        for other in ((), (Vector(),), (Vector(b=2),), (Vector(a=1),), (Vector(b=1), Vector(a=1)),
                      (Vector(b=1), Vector(a=2)), (Vector(b=1, z=1),), [Vector(b=1)], (None,), (Vector(b=1), "b=1"),
                      ((Vector(b=1),),), Lattice(Vector(b=1)), Vector(b=1), (Lattice(Vector(b=1)),)):
            self.wrong((word, other, worths, begins))

    def test_worths_otherwise(self):
        word, basis, worths, begins = self.told
        for key in worths:
            for change in (Vector(b=1), Vector(b=-9)):
                self.right((word, basis, {**worths, key: worths[key] + change}, begins))
            for change in (Vector(a=1), Vector(z=1), Vector(a=-1, b=1)):
                self.wrong((word, basis, {**worths, key: worths[key] + change}, begins))
            for value in (None, 0, {}, str(worths[key]), (worths[key],), Lattice()):
                self.wrong((word, basis, {**worths, key: value}, begins))
            self.wrong((word, basis, {other: worths[other] for other in worths if other != key}, begins))
        for key in (("d", "k"), ("d", "k", "k", "k"), ("z", "k", "k"), ("d", None, None), ("d", 1, "k"), "d", None):
            self.wrong((word, basis, {**worths, key: Vector()}, begins))
        # Pairs that are not met may be told, too, as long as they keep to the rules.
        self.right((word, basis, {**worths, ("h", "zz", "o"): Vector(b=-1)}, begins))
        self.wrong((word, basis, {**worths, ("h", "zz", "o"): Vector(a=-1)}, begins))
        self.right((word, basis, {**worths, ("g", "zz", "yy"): Vector()}, begins))
        self.wrong((word, basis, {**worths, ("g", "zz", "u"): Vector(a=1)}, begins))
        self.wrong((word, basis, {**worths, ("g", None, "u"): Vector(a=-1)}, begins))
        self.right((word, basis, {**worths, ("g", None, "u"): Vector(a=-1), ("s", None, "o"): Vector(a=-1)}, begins))

    def test_begins_otherwise(self):
        word, basis, worths, begins = self.told
        self.assertEqual(begins[ITEM], (Vector(), Vector(a=1)))
        for key in begins:
            self.right((word, basis, worths, {**begins, key: list(begins[key])}))
            self.right((word, basis, worths, {**begins, key: begins[key][::-1]}))
            self.right((word, basis, worths, {**begins, key: begins[key] * 3}))
            self.right((word, basis, worths, {**begins, key: tuple(vector + Vector(b=5) for vector in begins[key])}))
            self.wrong((word, basis, worths, {**begins, key: begins[key][1:]}))
            self.wrong((word, basis, worths, {**begins, key: ()}))
            self.wrong((word, basis, worths, {**begins, key: begins[key] * 101}))
            self.wrong((word, basis, worths, {other: begins[other] for other in begins if other != key}))
            for value in (None, Vector(), {}, (None,), begins[key] + (0,), "0", {Vector: 1}):
                self.wrong((word, basis, worths, {**begins, key: value}))
        # More begins are allowed, but not those by which the table can be shown.
        self.right((word, basis, worths, {**begins, ITEM: begins[ITEM] + (Vector(a=5),)}))
        self.wrong((word, basis, worths, {**begins, ITEM: begins[ITEM] + (Vector(a=2, b=8),)}))
        self.right((word, basis, worths, {**begins, ("h", "zz"): (Vector(),)}))
        self.wrong((word, basis, worths, {**begins, ("h", "zz"): ()}))
        self.wrong((word, basis, worths, {**begins, ("zz", "k"): (Vector(),)}))
        self.wrong((word, basis, worths, {**begins, ("g", "u", "u"): (Vector(),)}))

    def test_of_other_nets(self):
        for net in (PLAIN, FRAIL, KEPT.as_station("q")):
            self.assertIs(shows_explained(net, self.table, self.items, self.told), False)
        # A book more shows nothing more, if it leads nothing else to the tallies.
        more = KEPT.with_book("j", "more", Book(k={"g": "v"}))
        self.assertIs(shows_explained(more, self.table, self.items, self.told), True)
        # A net with less to choose shows less, so the certificate shows more than is needed.
        for net in (KEPT.without_book("j", "one"), KEPT.without_book("j", "two")):
            self.assertIs(shows_explained(net, self.table, self.items, self.told), True)

    def test_small_nets(self):
        chance = random.Random(142)
        seen = 0
        for _ in range(60):
            net = small_net(chance)
            key = chance.choice(list(form(net).residues))
            table = Vector.of({name: chance.randint(-4, 4) for name in net.tallies})
            self.use(net, table, key)
            self.right(self.told)
            if self.told[0] == "left":
                # The paper of the form is right, but it shows nothing here.
                worths, begins, _, _ = form_paper(net)
                self.wrong(("never", form(net).lattice.basis, worths, begins))
                continue
            seen += 1
            _, basis, worths, begins = self.told
            lattice = Lattice.of(basis)
            self.wrong(("never", basis, worths, {**begins, key: begins[key] + (table,)}))
            for _ in range(6):
                place = chance.choice(list(worths))
                other = {**worths, place: worths[place] + Vector.of({chance.choice(net.tallies): chance.choice([1, 2])})}
                same = other[place] - worths[place] in lattice
                self.assertIs(self.shows(("never", basis, other, begins)), same)
        self.assertGreater(seen, 20)


class TestManySums(Showing):
    def test_just_a_thousand(self):
        net = spread(k=list(range(10)), l=[10 * number for number in range(10)],
                     m=[100 * number for number in range(10)], n=[7], o=[0, 1])
        items = [("d", "k"), ("d", "l"), ("d", "m"), ("d", "n")]
        self.use(net, Vector(t=-1), *items)
        self.assertEqual(self.told[0], "never")
        self.right(self.told)
        self.right(self.told, items=items[::-1])
        for more in (items + [("d", "o")], [("d", "o")] + items, items + items):
            self.wrong(self.told, items=more)
            self.wrong(self.told, items=more, table=Vector(t=-10 ** 9))
        # Beside a larger lattice there are few sums again.
        word, _, worths, begins = self.told
        basis = (Vector(t=400),)
        for more in (items + [("d", "o")], items[:2] + [("d", "o")] * 8):
            self.wrong((word, basis, worths, begins), items=items + [("d", "o")])
            self.right((word, basis, worths, begins), items=items[:2] + [("d", "o")] * 8)

    def test_many_begins(self):
        # A certificate may tell a hundred begins for a door and kind, and a hundred and one are too many.
        net = switch(1)
        worths, _, _, _ = form_paper(net)
        for many in (100, 101):
            begins = {("d", "k"): tuple(Vector(t=number) for number in range(many)), ("w", "k"): (Vector(t=1),)}
            thing = ("never", (Vector(t=1),), worths, begins)
            self.assertIs(shows_explained(net, Vector(), (), thing), False)
        self.assertIs(shows_explained(net, Vector(), (), ("left", (), ())), True)

    def test_doors_at_tallies(self):
        net = Net(Door("d", "t", "k"), Tally("t", k=3))
        self.use(net, Vector(t=4), ("d", "k"))
        self.assertEqual(self.told, ("never", (), {("d", "k", "k"): Vector()}, {("d", "k"): (Vector(t=3),)}))
        self.right(self.told)
        self.right(("never", (Vector(t=2),), {("d", "k", "k"): Vector(t=8)}, {("d", "k"): [Vector(t=-3)]}))
        self.wrong(("never", (Vector(t=2),), {("d", "k", "k"): Vector(t=7)}, {("d", "k"): [Vector(t=-3)]}))
        self.wrong(("never", (Vector(t=2),), {("d", "k", "k"): Vector()}, {("d", "k"): [Vector(t=-2)]}))
        self.wrong(("never", (Vector(t=1),), {("d", "k", "k"): Vector()}, {("d", "k"): [Vector()]}))

    def test_nothing_is_changed(self):
        self.use(KEPT, Vector(a=2), ITEM)
        before = repr(self.told)
        items = [ITEM]
        self.right(self.told, items=items)
        self.assertEqual((repr(self.told), items), (before, [ITEM]))


class TestOrderOfErrors(Case):
    def test_both(self):
        for thing in ODD:
            self.refused(UnknownName, {"name": "c"}, shows_explained, PLAIN, Vector(d=1, c=1), [None], thing)
            self.refused(InvalidItem, {"index": 1}, shows_explained, TWO, Vector(a=1), [("d", "x"), thing], thing)
        station = Station("s", {}, ("x", Book()))
        self.assertIs(shows_explained(Net(station, Keeper("t", {}, ("x", Book()))), Vector(), [], ("left", (), ())), True)
