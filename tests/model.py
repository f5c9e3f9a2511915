"""Courses gone through one by one, straight from the words of the document, and small nets for that.

Nothing here uses what the package knows of outcomes and courses; it only reads nets.
"""

import itertools

from evenends.books import Book
from evenends.nets import Net
from evenends.parts import Door, Tally
from evenends.stations import Frail, Keeper, Station
from evenends.vectors import Vector

KINDS = "klm"


def row(station, book, kind):
    return station.book(book).row(kind) if kind is not None else {}


def outcome(station, choice, pair):
    """The outcome of a pair by a choice of three parts."""
    first, second, forgets = choice
    if station.KIND != "station" and None not in pair and not forgets:
        return {wire: (kind, kind) for wire, kind in row(station, first, pair[0]).items()}
    begins, ends = row(station, first, pair[0]), row(station, second, pair[1])
    return {wire: (begins.get(wire), ends.get(wire)) for wire in {*begins, *ends}}


def pairs_from(net, wire, pair, choices):
    """All pairs on the wires from one wire on."""
    found = {wire: pair}
    goal = net.goal(wire)
    if goal in net.stations:
        for other, below in outcome(net[goal], choices[goal], pair).items():
            found.update(pairs_from(net, other, below, choices))
    return found


def amounts(net, pairs, part):
    numbers = {}
    for wire, pair in pairs.items():
        goal = net.goal(wire)
        if goal in net.tallies and pair[part] is not None:
            numbers[goal] = numbers.get(goal, 0) + net[goal][pair[part]]
    return Vector.of(numbers)


class Told:
    """A course that was gone through."""

    def __init__(self, net, door, kind, choices):
        self.door, self.kind, self.choices = door, kind, choices
        self.pairs = pairs_from(net, door, (kind, kind), choices)
        self.begin = amounts(net, self.pairs, 0)
        self.drift = self.begin - amounts(net, self.pairs, 1)


def choices_of(station):
    forgetting = (False, True) if station.KIND == "frail" else (False,)
    return list(itertools.product(station.books, station.books, forgetting))


def count_of_courses(net):
    count = sum(len(net[door].kinds) for door in net.doors)
    for name in net.stations:
        count *= len(choices_of(net[name]))
    return count


def every_course(net):
    """All courses of a net."""
    tables = [choices_of(net[name]) for name in net.stations]
    for door in net.doors:
        for kind in net[door].kinds:
            for choices in itertools.product(*tables):
                yield Told(net, door, kind, dict(zip(net.stations, choices)))


def small_net(chance, most=4000, amount=3):
    """A net with at most so many courses: its stations hang below one another, and doors lead to any of them."""
    while True:
        net = tree_net(chance, amount)
        if count_of_courses(net) <= most:
            return net


def tree_net(chance, amount):
    names = ["sa", "sb", "sc", "sd"][:chance.choice([1, 2, 3, 3, 4])]
    sorts = chance.choice([[Station], [Keeper], [Frail], [Station, Keeper], [Station, Keeper, Frail]])
    letters = iter("abcdefghijklmnopqrstuvwxyz")
    goals = {name: chance.sample(["ta", "tb", "tc"], chance.choice([0, 1, 1, 2])) for name in names}
    for place, name in enumerate(names[1:], 1):
        if chance.random() < 0.9:
            goals[names[chance.randint(max(0, place - 2), place - 1)]].append(name)
    parts = [Tally(name, **{kind: chance.randint(-amount, amount) for kind in KINDS}) for name in ("ta", "tb", "tc")]
    for name in names:
        wires = {"w" + next(letters): goal for goal in goals[name]}
        books = []
        for title in ["x", "y", "z"][:chance.choice([1, 2, 2, 2, 3])]:
            rows = {kind: {wire: chance.choice(KINDS) for wire in wires if chance.random() < 0.8} for kind in KINDS}
            books.append((title, Book.of(rows)))
        parts.append(chance.choice(sorts)(name, wires, *books))
    doors = ["da", "db"][:chance.randint(1, 2)]
    parts += [Door(name, chance.choice(names[:2] + ["ta"] if place else names[:1]),
                   *chance.sample(KINDS, chance.randint(1, 2))) for place, name in enumerate(doors)]
    return Net(*parts)
