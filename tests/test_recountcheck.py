"""What shows that tallies tell all at the least cost, and what does not."""

import random

from evenends.books import Book
from evenends.courses import Course
from evenends.nets import Net
from evenends.parts import Door, Tally
from evenends.recountcheck import shows_recount
from evenends.recounts import recount
from evenends.stations import Station
from evenends.sums import level
from evenends.vectors import Vector
from evenends.weightings import Weighting
from tests.model import small_net
from tests.samples import FRAIL, KEPT, NO_NAMES, PLAIN, TWO, Case, spread, switch
from tests.test_recounts import costs_of

STAR = Net(Door("d", "s", "k", "l"), Station("s", {"va": "a", "vb": "b", "vc": "c"},
                                             ("x", Book(k={"va": "k", "vb": "k"}, l={"vc": "k"})),
                                             ("y", Book(k={"vc": "k", "vb": "k"}, l={"va": "k"}))),
           Tally("a", k=2), Tally("b", k=5), Tally("c", k=3))


def parts_of(told):
    return told.counted, told.levels, told.alone


class Recounting(Case):
    def use(self, net, costs):
        self.net, self.costs = net, costs
        self.told = parts_of(recount(net, costs))

    def shows(self, thing, costs=None):
        return shows_recount(self.net, self.costs if costs is None else costs, thing)

    def right(self, thing, **more):
        self.assertIs(self.shows(thing, **more), True, thing)

    def wrong(self, thing, **more):
        self.assertIs(self.shows(thing, **more), False, thing)

    def level_for(self, name, place, value):
        """The recount with another value at one of the three places of a level."""
        counted, levels, alone = self.told
        row = levels[name][:place] + (value,) + levels[name][place + 1:]
        return counted, {**levels, name: row}, alone

    def alone_for(self, name, value):
        counted, levels, alone = self.told
        return counted, levels, {**alone, name: value}


class TestShowsRecount(Recounting):
    def test_right_ones(self):
        chance = random.Random(161)
        for net in (PLAIN, KEPT, FRAIL, TWO, STAR, Net(), spread(k=[1, 2])):
            self.use(net, costs_of(net, chance))
            self.right(self.told)
            self.assertIs(shows_recount(net=net, costs=self.costs, thing=self.told), True)
            self.assertIs(shows_recount(Net.read(str(net)), self.costs, self.told), True)

    def test_any_values(self):
        for net, costs in ((PLAIN, {"a": 3, "b": 1}), (STAR, {"a": 1, "b": 1, "c": 1}), (Net(), {})):
            self.use(net, costs)
            told = self.told
            for value in NO_NAMES + [list(told), told[:2], told + ({},), told[::-1], (told,), dict(enumerate(told)),
                                     recount(net, costs)]:
                self.wrong(value)
            for place in range(3):
                for value in NO_NAMES + [told, list(told[place]), (told[place],), Weighting()]:
                    if value != told[place] or type(value) is not type(told[place]):
                        self.wrong(told[:place] + (value,) + told[place + 1:])

    def test_other_names(self):
        self.use(STAR, {"a": 1, "b": 2, "c": 3})
        counted, levels, alone = self.told
        self.assertEqual((counted, sorted(levels)), (("a",), ["b", "c"]))
        for names in ((), ("b",), ("a", "b"), ("a", "a"), ["a"], ("a", "z"), ("z",), ("s",), (None,), ("a", None), "a",
                      {"a": 1}, ("a", "c"), (("a",),), (True,)):
            self.wrong((names, levels, alone))
        both = {"a": 1, "b": 1}
        self.use(KEPT, both)
        counted, levels, alone = self.told
        self.assertEqual(counted, ("a", "b"))
        for names in (("b", "a"), ("a",), ("b",), ("a", "b", "b"), ["a", "b"]):
            self.wrong((names, levels, alone))

    def test_equal_costs(self):
        # Any tallies will do that cost no more.
        for costs, word in (({"a": 1, "b": 1}, True), ({"a": 1, "b": 2}, False), ({"a": 2, "b": 1}, True)):
            told = parts_of(recount(PLAIN, {"a": 3, "b": 1}))
            self.assertIs(shows_recount(PLAIN, costs, told), word)
        told = parts_of(recount(STAR, {"a": 5, "b": 9, "c": 5}))
        for costs, word in (({"a": 5, "b": 9, "c": 5}, True), ({"a": 5, "b": 9, "c": 4}, False), ({"a": 0, "b": 0, "c": 0}, True),
                            ({"a": 999999, "b": 999999, "c": 999999}, True)):
            self.assertIs(shows_recount(STAR, costs, told), word)

    def test_a_tally_that_costs_more(self):
        # In a level weighting of a + b, the counted tally must not cost more than the other one.
        counted, levels, alone = parts_of(recount(PLAIN, {"a": 1, "b": 1}))
        self.assertEqual((counted, str(levels["b"][0])), (("a",), "a + b"))
        for cost in range(4):
            self.assertIs(shows_recount(PLAIN, {"a": cost, "b": 2}, (counted, levels, alone)), cost <= 2)

    def test_keys(self):
        self.use(STAR, {"a": 1, "b": 2, "c": 3})
        counted, levels, alone = self.told
        for other in ({}, {"b": levels["b"]}, {**levels, "a": levels["b"]}, {**levels, "z": levels["b"]},
                      {**levels, None: levels["b"]}, {"b": levels["b"], "a": levels["c"]}, list(levels), tuple(levels)):
            self.wrong((counted, other, alone))
        for other in ({}, {"b": alone["a"]}, {**alone, "b": alone["a"]}, {**alone, None: None}, {("a",): alone["a"]}):
            self.wrong((counted, levels, other))
        self.right((counted, {"c": levels["c"], "b": levels["b"]}, alone))
        self.wrong((counted, {"c": levels["b"], "b": levels["c"]}, alone))

    def test_other_weightings(self):
        self.use(STAR, {"a": 1, "b": 2, "c": 3})
        for name in ("b", "c"):
            right = self.told[1][name][0]
            numbers = {other: right.vector[other] for other in right.names}
            for times in (2, -1, 3, 0, 10):
                other = Weighting.of({key: number * times for key, number in numbers.items()})
                answer = level(STAR, other)
                self.assertEqual(answer[0], "level")
                self.wrong((self.told[0], {**self.told[1], name: (other, *answer[1:])}, self.told[2]))
            for modulo in (2, 7, 10 ** 9):
                self.wrong(self.level_for(name, 0, Weighting.of(numbers, modulo)))
            for value in (*NO_NAMES, right.vector, str(right), (right,), Weighting(), Weighting.of({**numbers, "z": 1}),
                          Weighting.of({**numbers, "a": numbers.get("a", 0) + 1})):
                self.wrong(self.level_for(name, 0, value))

    def test_weights_at_other_tallies(self):
        # The level weighting of two tallies that are not counted tells nothing of them.
        net = Net(Door("d", "t", "k"), Tally("t", k=1), Tally("u", k=2))
        costs = {"t": 0, "u": 0}
        self.use(net, costs)
        both = Weighting(t=1, u=1)
        for name in ("t", "u"):
            self.right(self.told)
            self.wrong((self.told[0], {**self.told[1], name: (both, *level(net, both)[1:])}, self.told[2]))

    def test_worths_and_numbers(self):
        self.use(STAR, {"a": 1, "b": 2, "c": 3})
        for name in ("b", "c"):
            for place in (1, 2):
                row = self.told[1][name][place]
                for key in row:
                    for change in (1, -1, 60):
                        self.wrong(self.level_for(name, place, {**row, key: row[key] + change}))
                    self.wrong(self.level_for(name, place, {**row, key: None}))
                    self.wrong(self.level_for(name, place, {other: row[other] for other in row if other != key}))
                for value in NO_NAMES + [list(row.items()), Vector(a=1)]:
                    if value != row:
                        self.wrong(self.level_for(name, place, value))
            counted, levels, alone = self.told
            for row in (levels[name][:2], levels[name] + (None,), list(levels[name]), ("level", *levels[name]),
                        ("level", *levels[name][1:]), levels[name][::-1], None, ()):
                self.wrong((counted, {**levels, name: row}, alone))

    def test_alone(self):
        self.use(KEPT, {"a": 1, "b": 1})
        down = Course(KEPT, "d", "k", j=("one", "two"))
        one, two = Course(KEPT, "d", "k"), Course(KEPT, "d", "k", j=("two", "two"))
        self.assertEqual([str(vector) for vector in (down.drift, one.begin - two.begin)], ["b=-1", "a=1 b=-1"])
        far = 10 ** 40
        for value in (((7, down),), ((far, down), (1, down))):
            self.right(self.alone_for("b", (value, ())))
            self.wrong(self.alone_for("a", (value, ())))
        for value in ((((far, Course(KEPT, "d", "k", j=("two", "one"))),), ((far, one, two),)),
                      (((5, down),), ((5, two, one),)), (((5, down),), ((2, two, one), (3, two, one)))):
            self.right(self.alone_for("a", value))
            self.wrong(self.alone_for("b", value))
        for value in (((), ()), ((), ((1, one, two),)), ((), ((1, one, one),)), (((4, down),), ((5, two, one),)),
                      (((1, down),), ((1, one, two),))):
            for name in ("a", "b"):
                self.wrong(self.alone_for(name, value))

    def test_alone_of_odd_parts(self):
        self.use(KEPT, {"a": 1, "b": 1})
        down, one, two = (Course(KEPT, "d", "k", j=books) for books in (("one", "two"), ("one", "one"), ("two", "two")))
        other = Course(PLAIN, "d", "k", j=("one", "two"))
        self.right(self.alone_for("b", (((1, down),), ())))
        for closed in ((), ((0, down),), ((-1, down),), ((True, down),), ((1, other),), ((1, down, down),), ((1,),), (down,),
                       ((1, None),), [(1, down)], ([1, down],), (("1", down),), (1, down), ((down, 1),), None, {},
                       ((1, down), None), ((1, down), (0, one))):
            self.wrong(self.alone_for("b", (closed, ())))
        pair = (((5, down),), ((5, two, one),))
        self.right(self.alone_for("a", pair))
        foreign = Course(FRAIL, "d", "k", j=("two", "two"))
        for begins in (((5, two, foreign),), ((5, foreign, one),), ((True, two, one),), ((0, two, one),), ((-5, one, two),),
                       ((5, two),), ((5, two, one, one),), ([5, two, one],), [(5, two, one)], (5, two, one), None, {},
                       ((5, two, None),), ((5, None, one),), (("5", two, one),), ((5, two, one), None), ()):
            self.wrong(self.alone_for("a", (((5, down),), begins)))
        for value in (pair[:1], pair + ((),), list(pair), pair[::-1], None, (), {"a": pair}, pair[0]):
            self.wrong(self.alone_for("a", value))

    def test_courses_of_unlike_kinds(self):
        self.use(spread(k=[1, 4], l=[2]), {"t": 0})
        ones = [Course(self.net, "d", "k", s=(name, name)) for name in self.net["s"].books]
        other = Course(self.net, "d", "l")
        self.right(self.alone_for("t", ((), ((1, ones[0], ones[1]),))))
        self.right(self.alone_for("t", ((), ((1, ones[1], ones[0]),))))
        for pair in ((ones[0], other), (other, ones[0]), (ones[0], ones[0]), (other, other)):
            self.wrong(self.alone_for("t", ((), ((1, *pair),))))
        self.wrong(self.alone_for("t", ((), ((1, ones[0], ones[1]), (1, ones[1], ones[0])))))

    def test_parts_exchanged(self):
        self.use(KEPT, {"a": 1, "b": 1})
        counted, levels, alone = self.told
        self.wrong((counted, levels, {"a": alone["b"], "b": alone["a"]}))
        self.wrong((counted, alone, levels))
        self.wrong((levels, counted, alone))

    def test_of_other_nets(self):
        nets = [PLAIN, KEPT, FRAIL, PLAIN.as_keeper("j"), PLAIN.without_book("j", "two")]
        costs = {"a": 2, "b": 1}
        for net in nets:
            for other in nets:
                self.assertIs(shows_recount(net, costs, parts_of(recount(other, costs))), net is other)

    def test_small_nets(self):
        chance = random.Random(162)
        for _ in range(40):
            net = small_net(chance)
            self.use(net, costs_of(net, chance))
            counted, levels, alone = self.told
            self.right(self.told)
            for name in levels:
                weighting = levels[name][0]
                dear = {**self.costs, **{other: self.costs[name] + 1 for other in weighting.names if other != name}}
                self.assertIs(self.shows(self.told, costs=dear), len(weighting.names) == 1)
            for name in alone:
                closed, begins = alone[name]
                self.right(self.alone_for(name, (closed[::-1], begins[::-1])))
                self.right(self.alone_for(name, (closed * 2, begins * 2)))
                self.wrong(self.alone_for(name, ((), ())))

    def test_nothing_is_changed(self):
        self.use(switch(2), {"t": 1})
        before = repr(self.told)
        self.right(self.told)
        self.assertEqual((repr(self.told), self.costs), (before, {"t": 1}))
