"""Plans: which stations are given a memory so that sums are clean, and what shows that."""

import itertools
import random

from evenends.books import Book
from evenends.courses import Course
from evenends.errors import InvalidCosts, TooMany, UnknownName
from evenends.nets import Net
from evenends.parts import Door, Tally
from evenends.plancheck import shows_plan
from evenends.plans import plan
from evenends.stations import Keeper, Station
from evenends.sumcheck import shows_clean
from evenends.sums import clean
from evenends.vectors import Vector
from evenends.weightings import Weighting
from tests.model import every_course, small_net
from tests.samples import FRAIL, KEPT, LETTERS, NO_NAMES, PLAIN, TWO, Case, spread, switch

# The net of the document in which a memory and an exchange spoil a sum, with plain stations alone.
TWO_PLAIN = TWO.as_station("n")


def with_keepers(net, names):
    for name in names:
        net = net.as_keeper(name)
    return net


def choices_in_order(costs):
    names = sorted(costs)
    choices = [some for many in range(len(names) + 1) for some in itertools.combinations(names, many)]
    return sorted(choices, key=lambda some: (sum(costs[name] for name in some), len(some), some))


def plain_net(chance, most=300):
    net = small_net(chance, most)
    for name in net.stations:
        if chance.random() < 0.8:
            net = net.as_station(name)
    return net


def row_of(count, stations=Station):
    """So many stations in a row."""
    names = ["s" + letter for letter in LETTERS[:count]]
    return Net(Door("d", names[0], "k"), Tally("t", k=1),
               *[stations(name, {"w" + name: goal}, ("x", Book(k={"w" + name: "k"})), ("y", Book()))
                 for name, goal in zip(names, names[1:] + ["t"])])


class TestPlan(Case):
    def look(self, net, costs, *weightings):
        told = plan(net, costs, *weightings)
        choices = choices_in_order(costs)
        drifts = {}
        for choice in choices:
            drifts[choice] = [course.drift for course in every_course(with_keepers(net, choice))]
            if not any(weighting(drift) for drift in drifts[choice] for weighting in weightings):
                break
        else:
            choice = None
        refused = told[-1]
        self.assertEqual((type(told), type(refused)), (tuple, tuple))
        if choice is None:
            self.assertEqual((len(told), told[0]), (2, "none"))
            self.assertEqual([row[0] for row in refused], choices)
        else:
            self.assertEqual((len(told), told[:2]), (4, ("plan", choice)))
            papers = tuple(clean(with_keepers(net, choice), weighting)[1] for weighting in weightings)
            self.alike(told[2], papers)
            self.assertEqual([row[0] for row in refused], choices[:choices.index(choice)])
        for row, index, course in refused:
            self.assertEqual((type(row), type(index), course.net), (tuple, int, with_keepers(net, row)))
            self.assertNotEqual(weightings[index](course.drift), 0)
        for rows in (list(weightings), weightings):
            self.assertIs(shows_plan(net, costs, rows, told), True)
        return told

    def test_samples(self):
        told = self.look(PLAIN, {"q": 5, "j": 9}, Weighting(a=1))
        self.assertEqual((told[:2], told[3][0][:2]), (("plan", ("q",)), ((), 0)))
        self.assertEqual(self.look(PLAIN, {"q": 5, "j": 9}, Weighting(a=1), Weighting(b=1))[1], ("j",))
        self.assertEqual(self.look(KEPT.as_station("q"), {"q": 5}, Weighting(a=1), Weighting(b=1))[0], "none")
        self.assertEqual(plan(PLAIN, {}, Weighting(a=1, b=1))[:2], ("plan", ()))
        self.assertEqual(plan(net=PLAIN, costs={}), ("plan", (), (), ()))

    def test_more_memory_is_not_better(self):
        # Both exchanges of TWO together spoil a + b, and so does the memory of PLAIN.
        both = Weighting(a=1, b=1)
        self.assertEqual(self.look(PLAIN, {"q": 0, "j": 0}, both)[1], ())
        self.assertEqual([clean(net, both)[0] for net in (PLAIN, KEPT, TWO)], ["clean", "drifts", "drifts"])
        for costs in ({"j": 1, "q": 1}, {"j": 2, "q": 1}, {"q": 1}, {"j": 1}, {}):
            self.look(TWO, costs, both)
            self.look(TWO_PLAIN, {**costs, "n": 1}, both)
        self.assertEqual(self.look(TWO, {"j": 1, "q": 1}, both)[0], "plan")

    def test_order_of_choices(self):
        # By cost, then by the number of stations, then as tuples.
        net = row_of(3)
        for costs in ({"sa": 1, "sb": 1, "sc": 1}, {"sa": 3, "sb": 2, "sc": 1}, {"sa": 0, "sb": 0, "sc": 0},
                      {"sc": 2, "sa": 2, "sb": 4}, {"sb": 0, "sa": 5, "sc": 0}, {"sa": 0, "sb": 1, "sc": 1}):
            self.look(net, costs, Weighting(t=1))
            self.look(net, costs, Weighting(t=5), Weighting(2, t=1))
        self.assertEqual(plan(net, {"sa": 9, "sb": 1, "sc": 1}, Weighting(t=1))[1], ("sa", "sb", "sc"))

    def test_small_nets(self):
        chance = random.Random(171)
        words = []
        for _ in range(80):
            net = plain_net(chance)
            plain = [name for name in net.stations if net[name].KIND == "station"]
            costs = {name: chance.choice([0, 1, 1, 2, 5, 999999]) for name in chance.sample(plain, min(len(plain), 3))}
            weightings = [Weighting.of({name: chance.randint(-2, 2) for name in net.tallies}, chance.choice([0, 0, 2, 3]))
                          for _ in range(chance.randint(0, 3))]
            told = self.look(net, costs, *weightings)
            words.append((told[0], len(told[-1]) > 0, len(told[1]) > 0))
        self.assertEqual(len(set(words)), 3)

    def test_six_costs(self):
        net = row_of(8)
        costs = {name: 1 for name in net.stations[1:7]}
        told = plan(net, costs, Weighting(t=2))
        self.assertEqual((told[0], len(told[1])), ("none", 64))
        self.assertIs(shows_plan(net, costs, [Weighting(t=2)], told), True)
        told = plan(row_of(6), dict.fromkeys(row_of(6).stations, 0), Weighting(t=2))
        self.assertEqual((told[1], len(told[3])), (row_of(6).stations, 63))

    def test_nothing_is_changed(self):
        costs = {"q": 5, "j": 9}
        told = plan(PLAIN, costs, Weighting(a=1))
        told[2][0].clear()
        self.assertEqual(list(costs.items()), [("q", 5), ("j", 9)])
        self.assertIs(shows_plan(PLAIN, costs, [Weighting(a=1)], plan(PLAIN, costs, Weighting(a=1))), True)


class TestErrors(Case):
    def refuses(self, kind, fields, net, costs, *weightings):
        self.refused(kind, fields, plan, net, costs, *weightings)
        for thing in (None, ("none", ()), ("plan", (), (), ())):
            self.refused(kind, fields, shows_plan, net, costs, weightings, thing)

    def test_costs(self):
        wrong = Weighting(z=1)
        for value in NO_NAMES:
            if not isinstance(value, dict):
                self.refuses(InvalidCosts, {"name": None}, PLAIN, value, wrong)
        for net, costs, name in (
                (PLAIN, {"z": 1}, "z"), (PLAIN, {"q": 1, "a": 1}, "a"), (PLAIN, {"q": -1}, "q"), (PLAIN, {"q": True}, "q"),
                (PLAIN, {"q": None, "j": -1}, "j"), (PLAIN, {"j": 1, "q": "1"}, "q"), (KEPT, {"q": 1, "j": 1}, "q"),
                (FRAIL, {"q": 1}, "q"), (PLAIN, {"d": 1, "j": -1}, "d"), (PLAIN, {"j": -1, "zz": 0}, "j"),
                (PLAIN, {None: 1, "j": 1}, None), (PLAIN, {1: 1, "j": []}, "j"), (PLAIN, {("j",): 1}, ("j",)),
                (PLAIN, {"s": 1}, "s"), (Net(), {"a": 1}, "a"), (PLAIN, {10: 1, 9: 1}, 10)):
            self.refuses(InvalidCosts, {"name": name}, net, costs, wrong)

    def test_too_many(self):
        net = row_of(8)
        wrong = Weighting(z=1)
        self.refuses(TooMany, {"limit": 6}, net, {name: 0 for name in net.stations[:7]}, wrong)
        self.refuses(TooMany, {"limit": 6}, net, {name: 0 for name in net.stations})
        self.refuses(InvalidCosts, {"name": "sb"}, net, {**{name: 0 for name in net.stations}, "sb": -1}, wrong)
        self.refuses(UnknownName, {"name": "z"}, net, {name: 0 for name in net.stations[:6]}, wrong)

    def test_names(self):
        for weightings, name in (([Weighting(z=1)], "z"), ([Weighting(a=1), Weighting(y=1, c=1)], "c"),
                                 ([Weighting(a=1, q=1), Weighting(b=1, c=1)], "q"), ([Weighting(2, d=1, s=1)], "d")):
            self.refuses(UnknownName, {"name": name}, PLAIN, {"q": 1}, *weightings)
        self.assertEqual(plan(PLAIN, {}, Weighting(2, z=2))[0], "plan")


class TestShowsPlan(Case):
    def use(self, net, costs, *weightings):
        self.net, self.costs, self.weightings = net, costs, weightings
        self.told = plan(net, costs, *weightings)

    def shows(self, thing, **more):
        given = {"net": self.net, "costs": self.costs, "weightings": self.weightings, **more}
        return shows_plan(thing=thing, **given)

    def right(self, thing, **more):
        self.assertIs(self.shows(thing, **more), True, thing)

    def wrong(self, thing, **more):
        self.assertIs(self.shows(thing, **more), False, thing)

    def exchanged(self, place, value):
        return self.told[:place] + (value,) + self.told[place + 1:]

    def refused_as(self, rows):
        return self.told[:-1] + (rows,)

    def test_any_values(self):
        for net, costs, weightings in ((PLAIN, {"q": 5, "j": 9}, [Weighting(a=1)]), (PLAIN, {"q": 1}, [Weighting(b=1)]),
                                       (PLAIN, {}, [])):
            self.use(net, costs, *weightings)
            told = self.told
            self.right(told)
            for value in NO_NAMES + [list(told), told[:-1], told + ((),), told[::-1], (told,), dict(enumerate(told))]:
                self.wrong(value)
            for place in range(len(told)):
                for value in NO_NAMES + [told, list(told[place]), (told[place],), "plan", "none", Vector(), {"q": 1}]:
                    if value != told[place] or type(value) is not type(told[place]):
                        self.wrong(self.exchanged(place, value))

    def test_other_choices(self):
        self.use(PLAIN, {"q": 5, "j": 9}, Weighting(a=1))
        self.assertEqual(self.told[1], ("q",))
        for choice in ((), ("j",), ("j", "q"), ("q", "j"), ("q", "q"), ["q"], "q", ("z",), (None,), ("d",)):
            self.wrong(self.exchanged(1, choice))
        # A plan for another net, or with other costs, or for other sums.
        self.wrong(self.told, costs={"q": 5, "j": 4})
        self.right(self.told, costs={"q": 5})
        self.wrong(self.told, costs={"j": 5})
        self.wrong(self.told, net=PLAIN.with_book("q", "more", Book()))
        self.wrong(self.told, weightings=[Weighting(b=1)])
        self.wrong(self.told, weightings=[Weighting(a=1), Weighting(a=1)])
        self.wrong(self.told, weightings=[])
        self.right(self.told, weightings=[Weighting(a=1)])

    def test_equal_costs(self):
        # The choice must be the first one, also among those that cost the same.
        self.use(PLAIN, {"q": 5, "j": 5}, Weighting(a=1))
        self.assertEqual((self.told[1], [row[0] for row in self.told[3]]), (("j",), [()]))
        other = plan(PLAIN, {"q": 5, "j": 9}, Weighting(a=1))
        self.wrong(other)
        self.right(other, costs={"q": 5, "j": 6})

    def test_papers(self):
        self.use(PLAIN, {"q": 5, "j": 9}, Weighting(a=1), Weighting(3, a=1))
        kept = PLAIN.as_keeper("q")
        _, choice, papers, refused = self.told
        for place in (0, 1):
            for key in papers[place]:
                for change in (1, -1, 3):
                    row = {**papers[place], key: papers[place][key] + change}
                    same = place == 1 and change == 3
                    self.assertIs(self.shows(self.exchanged(2, papers[:place] + (row,) + papers[place + 1:])), same)
                row = {other: papers[place][other] for other in papers[place] if other != key}
                self.wrong(self.exchanged(2, papers[:place] + (row,) + papers[place + 1:]))
            more = {**papers[place], ("h", "zz", "o"): 0}
            self.assertIs(shows_clean(kept, self.weightings[place], ("clean", more)), True)
            self.right(self.exchanged(2, papers[:place] + (more,) + papers[place + 1:]))
        for value in (papers[:1], papers + papers[:1], list(papers), (), papers[0], ({}, {}),
                      tuple(("clean", row) for row in papers), (papers[0], None)):
            self.wrong(self.exchanged(2, value))
        # The worths of the net without a memory are not those of the net with it.
        plain = clean(PLAIN, Weighting(a=1, b=1))[1]
        self.use(PLAIN, {"q": 5}, Weighting(a=1, b=1))
        self.right(("plan", (), (plain,), ()))
        self.wrong(("plan", ("q",), (plain,), ()))

    def test_rows(self):
        self.use(row_of(3), {"sa": 1, "sb": 2, "sc": 4}, Weighting(2, t=2), Weighting(t=1))
        self.assertEqual((self.told[:2], len(self.told[3])), (("plan", ("sa", "sb", "sc")), 7))
        self.use(row_of(3), {"sb": 2, "sc": 4}, Weighting(2, t=2), Weighting(t=1))
        word, rows = self.told
        self.assertEqual((word, len(rows), rows[0][1]), ("none", 4, 1))
        for place, (choice, index, course) in enumerate(rows):
            for row in (rows[:place] + rows[place + 1:], rows[:place] + rows[place:place + 1] * 2 + rows[place + 1:]):
                self.wrong((word, row))
            for value in ((choice, 0, course), (choice, 2, course), (choice, -1, course), (choice, True, course),
                          (choice, None, course), (choice, "1", course), (choice, index), (choice, index, course, course),
                          [choice, index, course], (list(choice), index, course), (index, choice, course),
                          (("sb", "sz"), index, course), (choice, index, None), (choice, index, rows[place - 1][2]),
                          (choice, index, Course(course.net, "d", "k")), (choice, index, (course,)), None, (), course):
                self.wrong((word, rows[:place] + (value,) + rows[place + 1:]))
            same = Course.of(Net.read(str(course.net)), "d", "k", course.choices)
            self.right((word, rows[:place] + ((choice, index, same),) + rows[place + 1:]))
        self.wrong((word, rows[::-1]))
        self.wrong((word, (rows[1], rows[0], *rows[2:])))
        self.wrong((word, list(rows)))
        self.wrong(("plan", (), ({},), rows))
        self.wrong(("none", ()))

    def test_other_indexes(self):
        self.use(PLAIN, {"q": 1}, Weighting(b=1), Weighting(b=2), Weighting(a=1, b=1))
        word, rows = self.told
        self.assertEqual(word, "none")
        choice, index, course = rows[0]
        for other in (0, 1):
            self.right((word, ((choice, other, course), *rows[1:])))
        for other in (2, 3, -1, -3, True, False, 10 ** 50):
            self.wrong((word, ((choice, other, course), *rows[1:])))

    def test_small_nets(self):
        chance = random.Random(172)
        for _ in range(40):
            net = plain_net(chance)
            plain = [name for name in net.stations if net[name].KIND == "station"]
            costs = {name: chance.randint(0, 3) for name in plain[:3]}
            self.use(net, costs, *[Weighting.of({name: chance.randint(-2, 2) for name in net.tallies}) for _ in range(2)])
            self.right(self.told)
            rows = self.told[-1]
            for place in range(len(rows)):
                self.wrong(self.refused_as(rows[:place] + rows[place + 1:]))
            if self.told[0] == "plan" and len(rows) > 0:
                self.wrong(("none", rows))
                self.wrong(("plan", (), self.told[2], ()))

    def test_without_weightings(self):
        self.use(KEPT, {"j": 1})
        self.assertEqual(self.told, ("plan", (), (), ()))
        self.right(self.told)
        self.wrong(("plan", ("j",), (), ()))
        self.wrong(("none", ()))
        self.use(spread(k=[1, 2]), {})
        self.right(("plan", (), (), ()))
        self.use(switch(1), {"s": 0}, Weighting(t=1))
        self.assertEqual(self.told[1], ("s",))
        self.assertIs(isinstance(self.told[3][0][2].net["s"], Keeper), False)
