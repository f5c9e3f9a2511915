"""Random stories in random nets, compared with another way to tell what happens.

The model keeps no queues and no state of stations: it writes down, for each notice, what was sent, and looks
through all of this again whenever something must be known.
"""

import random
import unittest

from evenends.books import Book
from evenends.errors import InvalidNet
from evenends.houses import House
from evenends.nets import Net
from evenends.parts import Door, Tally
from evenends.stations import Frail, Keeper, Station
from evenends.vectors import Vector

KINDS = "klmn"


class Model:
    """What happened, as one long list: (what, ...) in order."""

    def __init__(self, net):
        self.net = net
        self.sent = []   # [wire, word, number, kind, moved]
        self.log = []
        self.items = []   # [door, kind, open]
        self.memory = {}   # (station, number): row

    def book(self, station):
        told = [book for place, book in self.log if place == station]
        return told[-1] if told else self.net[station].books[0]

    def on_wire(self, wire):
        return [notice for notice in self.sent if notice[0] == wire and not notice[4]]

    def move(self, wire):
        notice = self.on_wire(wire)[0]
        notice[4] = True
        _, word, number, kind, _ = notice
        part = self.net[self.net.goal(wire)]
        if isinstance(part, Tally):
            return
        row = part.book(self.book(part.name)).row(kind)
        if part.KIND != "station" and word == "begin":
            self.memory[part.name, number] = row
        elif word == "end":
            row = self.memory.pop((part.name, number), row)
        self.sent.extend([next_wire, word, number, row[next_wire], False] for next_wire in row)

    def table(self):
        numbers = {name: 0 for name in self.net.tallies}
        for wire, word, _, kind, moved in self.sent:
            if moved and self.net.goal(wire) in numbers:
                numbers[self.net.goal(wire)] += self.net[self.net.goal(wire)][kind] * (1 if word == "begin" else -1)
        return Vector.of(numbers)

    def begin(self, wire, kind):
        part = self.net[self.net.goal(wire)]
        if isinstance(part, Tally):
            return Vector.of({part.name: part[kind]})
        row = part.book(self.book(part.name)).row(kind)
        return sum((self.begin(next_wire, row[next_wire]) for next_wire in row), Vector())

    def meant(self):
        return sum((self.begin(door, kind) for door, kind, is_open in self.items if is_open), Vector())


def random_net(chance):
    """A net of some layers, if the parts that were drawn make one."""
    names = ["sa", "sb", "sc", "sd"][:chance.randint(1, 4)]
    wires = iter(["w" + letter for letter in "abcdefghijklmnop"])
    parts = [Tally(name, **{kind: chance.randint(-2, 3) for kind in KINDS}) for name in ("ta", "tb")]
    for place, name in enumerate(names):
        goals = names[place + 1:] + ["ta", "tb"]
        made = {next(wires): chance.choice(goals) for _ in range(chance.randint(0, 3))}
        books = []
        for title in ["x", "y", "z"][:chance.randint(1, 3)]:
            rows = {kind: {wire: chance.choice(KINDS) for wire in made if chance.random() < 0.7} for kind in KINDS}
            books.append((title, Book.of(rows)))
        parts.append(chance.choice([Station, Keeper, Frail])(name, made, *books))
    for door in ("da", "db"):
        parts.append(Door(door, chance.choice(names + names + ["ta"]), *chance.sample(KINDS, 2)))
    try:
        return Net(*parts)
    except InvalidNet:
        return None


class TestByModel(unittest.TestCase):
    def look(self, house, model):
        self.assertEqual((house.tallies, house.meant), (model.table(), model.meant()))
        self.assertEqual(house.open_items, {number: (door, kind) for number, (door, kind, is_open)
                                            in enumerate(model.items) if is_open})
        for wire in model.net.wires:
            self.assertEqual(house.wire(wire), tuple((notice[1], notice[2], notice[3])
                                                     for notice in model.on_wire(wire)))
        self.assertEqual(house.is_at_rest, all(notice[4] for notice in model.sent))
        self.assertEqual(house.books, {name: model.book(name) for name in model.net.stations})
        for name in model.net.stations:
            rows = {number: row for (station, number), row in model.memory.items() if station == name}
            self.assertEqual(list(house.known(name).items()), sorted(rows.items()))

    def step(self, chance, house, model):
        net = model.net
        way = chance.randrange(12)
        busy = [wire for wire in net.wires if model.on_wire(wire)]
        opened = [number for number, item in enumerate(model.items) if item[2]]
        if way < 2:
            door = chance.choice(net.doors)
            kind = chance.choice(net[door].kinds)
            self.assertEqual(house.open_item(door, kind), len(model.items))
            model.sent.append([door, "begin", len(model.items), kind, False])
            model.items.append([door, kind, True])
        elif way < 4 and opened:
            number = chance.choice(opened)
            house.close(number)
            model.items[number][2] = False
            model.sent.append([model.items[number][0], "end", number, model.items[number][1], False])
        elif way < 8 and busy:
            wire = chance.choice(busy)
            notice = model.on_wire(wire)[0]
            self.assertEqual(house.move(wire), tuple(notice[1:4]))
            model.move(wire)
        elif way == 8 and chance.random() < 0.4:
            moves = 0
            while busy:
                model.move(chance.choice(busy))
                moves += 1
                busy = [wire for wire in net.wires if model.on_wire(wire)]
            self.assertEqual(house.settle(), moves)
        elif way < 11:
            station = chance.choice(net.stations)
            book = chance.choice(net[station].books)
            house.use(station, book)
            model.log.append((station, book))
        else:
            station = chance.choice(net.stations)
            house.restart(station)
            if net[station].KIND == "frail":
                model.memory = {key: row for key, row in model.memory.items() if key[0] != station}

    def test_random_stories(self):
        chance = random.Random(4)
        nets = 0
        while nets < 60:
            net = random_net(chance)
            if net is None:
                continue
            nets += 1
            house, model = House(net), Model(net)
            for _ in range(60):
                self.step(chance, house, model)
                self.look(house, model)
            self.assertEqual(Net.read(str(net)), net)
