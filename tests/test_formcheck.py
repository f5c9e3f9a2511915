"""What shows that something is the form of a net, and what does not."""

import random

from evenends.books import Book
from evenends.courses import Course
from evenends.formcheck import shows_form
from evenends.forms import form, form_paper
from evenends.lattices import Lattice
from evenends.nets import Net
from evenends.parts import Door, Tally
from evenends.stations import Keeper, Station
from evenends.vectors import Vector
from evenends.weightings import Weighting
from tests.model import small_net
from tests.samples import FRAIL, KEPT, NO_NAMES, ODD, PLAIN, TWO, Case, switch
from tests.test_forms import fan

NETS = (PLAIN, KEPT, FRAIL, TWO)


class TestShowsForm(Case):
    def setUp(self):
        self.net, self.form, self.paper = KEPT, form(KEPT), form_paper(KEPT)

    def use(self, net):
        self.net, self.form, self.paper = net, form(net), form_paper(net)

    def shows(self, place, value):
        """Whether the paper shows the form with another value at one of its four places."""
        paper = self.paper[:place] + (value,) + self.paper[place + 1:]
        return shows_form(self.net, self.form, paper)

    def right(self, place, value):
        self.assertIs(self.shows(place, value), True, value)

    def wrong(self, place, value):
        self.assertIs(self.shows(place, value), False, value)

    def test_right_ones(self):
        for net in NETS + (PLAIN.as_keeper("j"), Net(), fan([3, 4])):
            self.assertIs(shows_form(net, form(net), form_paper(net)), True)
            self.assertIs(shows_form(net=net, form=form(net), paper=form_paper(net)), True)

    def test_forms_of_other_nets(self):
        nets = NETS + (PLAIN.as_keeper("j"), PLAIN.without_book("j", "two"), Net(), fan([2, 2]))
        for net in nets:
            for other in nets:
                for paper in (form_paper(net), form_paper(other)):
                    self.assertIs(shows_form(net, form(other), paper), net is other)

    def test_other_nets_with_an_equal_form(self):
        more = KEPT.with_book("q", "more", Book(u={"s": "o"}))
        self.assertTrue(form(more) == form(KEPT))
        self.assertIs(shows_form(more, form(KEPT), form_paper(more)), True)
        # The courses must be those of an equal net.
        self.assertIs(shows_form(more, form(KEPT), form_paper(KEPT)), False)

    def test_any_values(self):
        right, paper = form(KEPT), form_paper(KEPT)
        for value in NO_NAMES + [paper, right.lattice, right.residues, (right.lattice, right.residues), "form"]:
            self.assertIs(shows_form(KEPT, value, paper), False)
        for value in NO_NAMES + [right, list(paper), paper[:3], paper + (None,), paper[::-1], (paper,),
                                 {"worths": paper[0]}]:
            self.assertIs(shows_form(KEPT, right, value), False)
        for place in range(4):
            for value in NO_NAMES + [paper, right, list(paper[place]), str(paper[place]), Weighting(), Lattice()]:
                self.wrong(place, value)

    def test_worths_otherwise(self):
        for net in NETS:
            self.use(net)
            worths = self.paper[0]
            for key in worths:
                for change in (Vector(a=1), Vector(b=-1), Vector(c=1), Vector(a=2, b=3)):
                    value = {**worths, key: worths[key] + change}
                    if change in self.form.lattice:
                        self.right(0, value)
                    else:
                        self.wrong(0, value)
                for change in self.form.lattice.basis:
                    self.right(0, {**worths, key: worths[key] + change * 10 ** 40})
                for value in (0, 1, None, "0", (0,), {}, Weighting(), worths[key].names):
                    self.wrong(0, {**worths, key: value})
                self.wrong(0, {other: worths[other] for other in worths if other != key})
            for key in [("g", None, None), ("zz", "u", "u"), ("j", "u", "u"), ("a", "o", "o"), ("g", "u"),
                        ("g", "A", "u"), ("g", "u", 1), ("g", True, "u"), "g", None, 0, (), ("g", "u", "u", "u"),
                        (None, "u", "u")]:
                self.wrong(0, {**worths, key: Vector()})
            self.wrong(0, {})
            self.wrong(0, tuple(worths.items()))

    def test_worths_that_no_course_needs(self):
        worths = self.paper[0]
        self.right(0, {**worths, ("s", "zz", "zy"): Vector()})
        self.wrong(0, {**worths, ("s", "zz", "zy"): Vector(a=1)})
        self.right(0, {**worths, ("h", None, "o"): Vector(b=5), ("h", "zz", "o"): Vector()})
        self.right(0, {**worths, ("g", "u", None): Vector(a=1), ("s", "o", None): Vector(a=1)})
        self.wrong(0, {**worths, ("g", "u", None): Vector(a=1)})

    def test_begins_otherwise(self):
        for net in NETS:
            self.use(net)
            begins = self.paper[1]
            for key in begins:
                self.right(1, {**begins, key: list(begins[key])})
                self.right(1, {**begins, key: begins[key][::-1] + begins[key]})
                self.right(1, {**begins, key: [vector + change * -7 for vector in begins[key]
                                               for change in (Vector(), *self.form.lattice.basis)]})
                self.wrong(1, {other: begins[other] for other in begins if other != key})
                for at in range(len(begins[key])):
                    self.wrong(1, {**begins, key: begins[key][:at] + begins[key][at + 1:]})
                    for value in (None, 0, (), [Vector()], "0", Weighting()):
                        self.wrong(1, {**begins, key: begins[key] + (value,)})
                for value in ODD + [0, begins[key][0], {vector.names: vector for vector in begins[key]}]:
                    if value != () and value != []:
                        self.wrong(1, {**begins, key: value})
                self.wrong(1, {**begins, key: ()})
                self.wrong(1, {**begins, key: []})
            for key in [("g", None), ("zz", "u"), ("j", "u"), ("a", "o"), ("g",), ("g", "A"), ("g", 1), ("g", "u", "u"),
                        "g", None, 0, (), (None, "u")]:
                self.wrong(1, {**begins, key: (Vector(),)})
            self.wrong(1, {})
            self.wrong(1, tuple(begins.items()))

    def test_begins_at_doors(self):
        # What begins tells for a door and kind must be residues; elsewhere there may be more.
        begins = self.paper[1]
        self.wrong(1, {**begins, ("d", "k"): begins["d", "k"] + (Vector(a=2),)})
        self.wrong(1, {**begins, ("d", "k"): begins["d", "k"] + (Vector(z=1),)})
        self.right(1, {**begins, ("d", "k"): begins["d", "k"] + (Vector(b=8), Vector(a=1, b=-8))})
        self.wrong(1, {**begins, ("s", "o"): begins["s", "o"] + (Vector(a=2),)})
        self.right(1, {**begins, ("h", "o"): begins["h", "o"] + (Vector(b=2),)})

    def test_begins_that_no_course_needs(self):
        begins = self.paper[1]
        self.right(1, {**begins, ("s", "zz"): [Vector()]})
        self.right(1, {**begins, ("s", "zz"): [Vector(), Vector(a=5)]})
        self.wrong(1, {**begins, ("s", "zz"): [Vector(a=5)]})
        self.right(1, {**begins, ("g", "zz"): [Vector()]})
        self.wrong(1, {**begins, ("g", "zz"): [Vector(a=1)]})

    def test_a_hundred_vectors(self):
        begins = self.paper[1]
        for count, is_right in ((99, True), (100, True), (101, False), (1000, False)):
            value = {**begins, ("s", "o"): [Vector(a=1, b=number) for number in range(count)]}
            self.assertIs(self.shows(1, value), is_right)
        self.use(fan([10, 10]))
        begins = self.paper[1]
        self.assertEqual(len(begins["d", "k"]), 100)
        for key in [("d", "k"), ("wa", "k")]:
            for at in range(0, len(begins[key]), 9):
                self.wrong(1, {**begins, key: begins[key][:at] + begins[key][at + 1:]})
        self.wrong(1, {**begins, ("wa", "k"): begins["wa", "k"] + (Vector(ta=10 ** 6),)})

    def test_closed_otherwise(self):
        for net in NETS:
            self.use(net)
            closed = self.paper[2]
            self.wrong(2, closed[1:])
            self.wrong(2, closed + closed[:1])
            self.wrong(2, closed + ((),))
            self.wrong(2, list(closed))
            if len(closed) > 1:
                self.wrong(2, closed[::-1])
            for at, made in enumerate(closed):
                times, course = made[0]
                base = Course(net, course.door, course.kind)
                for value in [(), made[1:], list(made), ((times + 1, course),) + made[1:], [(times, course)],
                              ((times, course),) + made, ([times, course],) + made[1:], ((times,),) + made[1:],
                              ((times, course, course),) + made[1:], ((course, times),) + made[1:],
                              made + ((0, base),), made + ((-1, base),), made + ((True, base),), made + ((None, base),),
                              made + ((1, None),), made + ((1, base.drift),), made + (None,), made + ((),),
                              made + (1, base), None, course, (times, course), {times: course}]:
                    self.wrong(2, closed[:at] + (value,) + closed[at + 1:])
                for value in (made + ((1, base),), ((10 ** 60, base),) + made, made[::-1],
                              made + tuple((5, other) for other in (course, *course.turned()))):
                    self.right(2, closed[:at] + (value,) + closed[at + 1:])
                more = net.with_book("q", "more", Book())
                self.wrong(2, closed[:at] + (made + ((1, Course(more, course.door, course.kind)),),) + closed[at + 1:])
                self.assertEqual(Net.read(str(net)), net)
                again = tuple((number, Course.of(Net.read(str(net)), other.door, other.kind, other.choices))
                              for number, other in made)
                self.right(2, closed[:at] + (again,) + closed[at + 1:])

    def test_opened_otherwise(self):
        for net in NETS + (fan([2, 3]),):
            self.use(net)
            opened = self.paper[3]
            for key in opened:
                row = opened[key]
                self.wrong(3, {other: opened[other] for other in opened if other != key})
                for value in [(), row[1:], row + row[:1], list(row), row + (None,), None, row[0], {0: row[0]},
                              tuple(course.begin for course in row), tuple((course,) for course in row)]:
                    self.wrong(3, {**opened, key: value})
                if len(row) > 1:
                    self.wrong(3, {**opened, key: row[::-1]})
                    self.wrong(3, {**opened, key: row[:1] * len(row)})
                other_net = net.with_book(net.stations[0], "more", Book())
                same = [Course.of(other_net, course.door, course.kind, course.choices) for course in row]
                self.wrong(3, {**opened, key: tuple(same)})
            for key in [("d", "zz"), ("e", "k"), "d", None, 0, ("d",), ("d", "k", "k")]:
                self.wrong(3, {**opened, key: ()})
                self.wrong(3, {key: row for row in opened.values()})
            self.wrong(3, {})
            self.wrong(3, tuple(opened.items()))

    def test_courses_with_the_same_residue(self):
        self.use(PLAIN)
        for choices in ({}, {"j": ("two", "one")}, {"j": ("two", "two")}):
            self.right(3, {("d", "k"): (Course.of(PLAIN, "d", "k", choices),)})

    def test_other_doors_and_kinds(self):
        parts = [PLAIN[name] for name in ("j", "q", "a", "b")]
        self.use(Net.of([*parts, Door("d", "j", "k", "l"), Door("e", "j", "k")]))
        opened = self.paper[3]
        self.assertEqual(sorted(opened), [("d", "k"), ("d", "l"), ("e", "k")])
        self.right(3, dict(reversed(list(opened.items()))))
        self.wrong(3, {**opened, ("d", "k"): opened["e", "k"]})
        self.wrong(3, {**opened, ("e", "k"): opened["d", "k"]})
        self.wrong(3, {**opened, ("d", "l"): (Course(self.net, "d", "k"),)})
        less = Net.of([*parts, Door("d", "j", "k", "l")])
        self.assertIs(shows_form(less, self.form, form_paper(less)), False)
        self.assertIs(shows_form(self.net, form(less), self.paper), False)

    def test_a_form_with_fewer_doors(self):
        # All that is told may be right for the doors that the form has, but the net has one more.
        tally = Tally("t", k=1)
        one = Net(Door("d", "t", "k"), tally)
        two = Net(Door("d", "t", "k"), Door("e", "t", "k"), tally)
        worths, begins, closed, opened = form_paper(two)
        self.assertIs(shows_form(two, form(two), (worths, begins, closed, opened)), True)
        for fewer in (opened, {("d", "k"): opened["d", "k"]}):
            self.assertIs(shows_form(two, form(one), (worths, begins, closed, fewer)), False)

    def test_courses_of_other_nets(self):
        self.use(KEPT)
        opened = self.paper[3]
        row = opened["d", "k"]
        self.assertEqual(len(row), 2)
        for net in (PLAIN, FRAIL):
            for place, course in enumerate(row):
                other = Course.of(net, "d", "k", course.choices)
                self.assertEqual(other.begin, course.begin)
                self.wrong(3, {("d", "k"): row[:place] + (other,) + row[place + 1:]})

    def test_residues_that_cannot_be_shown(self):
        # This form has more residues, and this one fewer, than the net.
        for net, other in ((KEPT.without_book("j", "two"), KEPT), (KEPT, KEPT.without_book("j", "two"))):
            for place in range(4):
                paper = list(form_paper(net))
                paper[place] = form_paper(other)[place]
                self.assertIs(shows_form(net, form(other), tuple(paper)), False)

    def test_a_greater_lattice(self):
        # Worths can be told for a lattice that is greater than the drifts, but nothing closes that leaves it.
        half, whole = switch(1), switch(2)
        self.assertEqual((str(form(half).lattice), str(form(whole).lattice)), ("t=1", "t=2"))
        worths, begins, closed, opened = form_paper(whole)
        self.assertIs(shows_form(whole, form(half), (worths, begins, closed, opened)), False)
        self.assertIs(shows_form(whole, form(whole), (worths, begins, closed, opened)), True)

    def test_nothing_is_changed(self):
        again = form_paper(KEPT)
        shows_form(KEPT, self.form, self.paper)
        self.assertEqual([list(part) for part in self.paper], [list(part) for part in again])
        self.assertEqual(self.paper, again)

    def test_small_nets(self):
        chance = random.Random(91)
        for _ in range(60):
            self.use(small_net(chance, 800))
            self.assertIs(shows_form(self.net, self.form, self.paper), True)
            worths, begins, closed, opened = self.paper
            change = Vector(ta=chance.randint(-2, 2), tb=chance.randint(-1, 1))
            key = chance.choice(list(worths))
            self.assertIs(self.shows(0, {**worths, key: worths[key] + change}), change in self.form.lattice)
            key = chance.choice(sorted(opened))
            if change not in self.form.lattice:
                moved = {**begins, key: tuple(vector + change for vector in begins[key])}
                residues = [self.form.lattice.reduced(vector) for vector in moved[key]]
                same = sorted(map(str, residues)) == sorted(map(str, self.form.residues[key]))
                self.assertIs(self.shows(1, moved), same)


class TestKeepers(Case):
    def test_keepers_of_unlike_kinds(self):
        books = ("x", Book(k={"w": "k"})), ("y", Book(k={"w": "l"}))
        net = Net(Door("d", "s", "k"), Station("s", {"w": "q"}, *books),
                  Keeper("q", {"v": "t"}, ("x", Book(k={"v": "k"}, l={"v": "l"}))), Tally("t", k=1, l=5))
        worths, begins, closed, opened = form_paper(net)
        self.assertEqual(worths["w", "k", "l"], Vector())
        self.assertEqual((begins["d", "k"], closed), ((Vector(t=1), Vector(t=5)), ()))
        self.assertIs(shows_form(net, form(net), (worths, begins, closed, opened)), True)
