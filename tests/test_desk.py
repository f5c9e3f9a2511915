"""The desk: a house that is led by lines."""

import random

from evenends.desk import Desk
from evenends.drifts import drifts
from evenends.errors import (InvalidCosts, InvalidDeed, InvalidNet, InvalidText, NetError, NoItem, NothingToUndo, TooMany,
                             UnknownCommand, UnknownName)
from evenends.explained import explained
from evenends.houses import House
from evenends.nets import Net
from evenends.recounts import recount
from evenends.reports import sums_report
from evenends.stories import read_story
from evenends.vectors import Vector
from evenends.weightings import Weighting
from tests.model import small_net
from tests.samples import KEPT, NO_NAMES, PLAIN, TWO, Case, spread

SMALL = "net door d j k / station j g>a h>b / book one k>g:o / book two k>h:o / tally a o=1 / tally b o=1"
COMMANDS = ("net", "show", "open", "close", "move", "settle", "book", "restart", "table", "meant", "items", "drifts", "sum",
            "could", "count", "undo")


def net_line(net):
    return ("net " + str(net).replace("\n", " / ")).rstrip(" ")


def desk_of(net, *lines):
    desk = Desk()
    for line in (net_line(net), *lines):
        desk(line)
    return desk


class TestLines(Case):
    def test_example(self):
        desk = Desk()
        for line, answer in ((SMALL, "ok"), ("open d k", "0"), ("settle", "2"), ("book j two", "ok"), ("close 0", "ok"),
                             ("settle", "2"), ("table", "a=1 b=-1"), ("drifts", "a=1 b=-1"), ("sum a + b", "level"),
                             ("could a=2 b=-2", "left"), ("could a=1", "never"), ("count a=3 b=1", "b"), ("undo", "ok"),
                             ("table", "a=1"), ("items", "-"), ("undo", "ok"), ("items", "0:d:k")):
            self.alike(desk(line), answer)
        self.refused(UnknownCommand, {"word": 2}, desk, "move d x")

    def test_at_first(self):
        desk = Desk()
        self.assertEqual(desk.house(), House(Net()))
        for line, answer in (("show", "-"), ("items", "-"), ("table", "0"), ("meant", "0"), ("drifts", "0"), ("settle", "0"),
                             ("count", "-"), ("could 0", "left"), ("sum 0", "level"), ("sum 0 mod 7", "level")):
            self.alike(desk.say(line), answer)
        self.alike(desk.say(line="net"), "ok")

    def test_net(self):
        desk = Desk()
        for net in (PLAIN, KEPT, TWO, Net(), spread(k=[1, 2])):
            self.assertEqual(desk(net_line(net)), "ok")
            self.assertEqual(desk.house(), House(net))
            self.assertEqual(desk("show"), str(net).replace("\n", " / ") or "-")
        desk(SMALL)
        desk("open d k")
        self.assertEqual((desk("net"), desk("show"), desk("items")), ("ok", "-", "-"))

    def test_nets_that_are_wrong(self):
        desk = desk_of(PLAIN, "open d k")
        before = desk.house()
        for line, row, word in (("net /", 0, 0), ("net / /", 0, 0), ("net tally a /", 1, 0), ("net tally a / / tally b", 1, 0),
                                ("net / tally a", 0, 0), ("net tally a / tally b o=", 1, 2), ("net tally", 0, 1),
                                ("net tally a / door d a k", 1, 0), ("net door d a / tally a", 0, 3),
                                ("net station s", 1, 0), ("net -", 0, 0), ("net tally a/ tally b", 0, 1),
                                ("net tally a // tally b", 0, 2), ("net net", 0, 0)):
            self.refused(InvalidText, {"line": row, "word": word}, desk, line)
        self.refused(InvalidNet, {"reason": "goal", "name": "d"}, desk, "net door d b k / tally a")
        self.refused(InvalidNet, {"reason": "name", "name": "a"}, desk, "net door a a k / tally a")
        for line, word in (("net ", 1), ("net  tally a", 1), ("net tally a ", 3), ("net tally  a", 2), ("net tally a\n", 2),
                           ("net tally a / \n", 4), ("net tally a /\n tally b", 3), ("net \n", 1), (" net", 0), ("net\n", 0)):
            self.refused(UnknownCommand, {"word": word}, desk, line)
        self.assertEqual(desk.house(), before)

    def test_moves_and_items(self):
        desk = desk_of(PLAIN)
        for line, answer in (("open d k", "0"), ("open d k", "1"), ("items", "0:d:k 1:d:k"), ("move d", "begin 0 k"),
                             ("move g", "begin 0 u"), ("move s", "begin 0 o"), ("table", "a=1"), ("meant", "a=2"),
                             ("book j two", "ok"), ("meant", "b=2"), ("close 0", "ok"), ("items", "1:d:k"),
                             ("move d", "begin 1 k"), ("move d", "end 0 k"), ("move h", "begin 1 o"), ("move h", "end 0 o"),
                             ("move g", "begin 1 v"), ("settle", "1"), ("table", "a=1"), ("could a=1", "left"),
                             ("could a=1 b=1", "never"), ("restart q", "ok"), ("settle", "0")):
            self.alike(desk(line), answer)

    def test_errors_of_the_functions(self):
        desk = desk_of(PLAIN, "open d k", "settle")
        before = desk.house()
        for line, kind, fields in (
                ("open e k", UnknownName, {"name": "e"}), ("open d u", InvalidDeed, {"reason": "kind"}),
                ("close 1", NoItem, {"number": 1}), ("close 999999", NoItem, {"number": 999999}),
                ("move z", UnknownName, {"name": "z"}), ("move d", InvalidDeed, {"reason": "empty"}),
                ("book z one", UnknownName, {"name": "z"}), ("book j three", UnknownName, {"name": "three"}),
                ("restart a", UnknownName, {"name": "a"}), ("sum z + zz", UnknownName, {"name": "z"}),
                ("sum a + d", UnknownName, {"name": "d"}), ("could a=1 c=1 z=2", UnknownName, {"name": "c"}),
                ("count", InvalidCosts, {"name": "a"}), ("count a=1", InvalidCosts, {"name": "b"}),
                ("count a=1 b=1 c=1", InvalidCosts, {"name": "c"}), ("count z=1", InvalidCosts, {"name": "z"})):
            self.refused(kind, fields, desk, line)
            self.refused(kind, fields, desk.say, line)
        self.assertEqual(desk.house(), before)
        self.assertEqual((desk("undo"), desk("items"), desk("undo"), desk("items")), ("ok", "0:d:k", "ok", "-"))

    def test_count(self):
        desk = desk_of(KEPT)
        self.assertEqual((desk("count a=0 b=0"), desk("count a=999999 b=7")), ("a b", "a b"))
        desk = desk_of(PLAIN)
        self.assertEqual((desk("count a=0 b=0"), desk("count a=1 b=0")), ("a", "b"))
        self.assertEqual(desk_of(Net.read("tally a o=1"))("count a=3"), "-")

    def test_could(self):
        net = spread(k=list(range(10)), l=[10 * number for number in range(10)],
                     m=[100 * number for number in range(10)], o=[0, 1])
        desk = desk_of(net, "open d k", "open d l")
        self.assertEqual([desk(f"could t={number}") for number in (99, 100)], ["left", "never"])
        desk("open d m")
        self.assertEqual([desk(f"could {table}") for table in ("t=999", "t=1000", "0")], ["left", "never", "left"])
        desk("open d o")
        self.refused(TooMany, {"limit": 1000}, desk, "could 0")
        desk("close 0")
        self.assertEqual(desk("could t=" + "9" * 60), "never")
        many = desk_of(spread(k=list(range(101)), l=[0]))
        self.refused(TooMany, {"limit": 100}, many, "could t=1")


class TestWords(Case):
    """Which word cannot stand."""

    def setUp(self):
        self.desk = desk_of(PLAIN, "open d k", "settle")

    def wrong(self, line, word):
        before = self.desk.house()
        self.refused(UnknownCommand, {"word": word}, self.desk, line)
        self.refused(UnknownCommand, {"word": word}, self.desk.say, line=line)
        self.assertEqual(self.desk.house(), before)

    def test_any_values(self):
        for value in NO_NAMES + [["show"], ("show",), {"show": 1}, Net(), House(Net()), Desk(), b"show"]:
            if not isinstance(value, str):
                self.wrong(value, 0)

    def test_no_commands(self):
        for line in ("", " ", "  show", " show", "\n", "show\n", "\nshow", "Show", "SHOW", "shows", "net/", "/", "tell",
                     "house", "say", "undo\n", "undo()", "sum+a", "items,", "self", "0", "-"):
            self.wrong(line, 0)

    def test_a_word_too_many(self):
        for line, word in (("show x", 1), ("table x", 1), ("meant 0", 1), ("items -", 1), ("drifts 0", 1), ("undo 1", 1),
                           ("settle 1", 1), ("open d k k", 3), ("close 0 0", 2), ("move d d", 2), ("book j two two", 3),
                           ("restart q q", 2), ("could 0 0", 2), ("could 0 a=1", 2), ("sum a b", 2), ("sum 0 0", 2),
                           ("sum a + b mod 4 4", 6)):
            self.wrong(line, word)
            self.wrong(line + " x", word)

    def test_a_word_is_missing(self):
        for line, word in (("open", 1), ("open d", 2), ("close", 1), ("move", 1), ("book", 1), ("book j", 2), ("restart", 1),
                           ("could", 1), ("sum", 1), ("sum -", 2), ("sum a +", 3), ("sum a + 2", 4), ("sum a mod", 3),
                           ("sum 2", 2), ("sum 0 mod", 3)):
            self.wrong(line, word)

    def test_empty_words_and_newlines(self):
        for line in ("open d k", "close 0", "move d", "book j two", "restart q", "could a=1 b=2", "sum a + 2 b mod 7",
                     "count a=1 b=2", "show", "items", "settle", "table", "meant", "drifts", "undo"):
            words = line.split(" ")
            for place in range(1, len(words) + 1):
                self.wrong(" ".join(words[:place] + [""] + words[place:]), place)
                self.wrong(" ".join(words[:place] + ["\n"] + words[place:]), place)
            for place in range(1, len(words)):
                for changed in (words[place] + "\n", "\n" + words[place]):
                    self.wrong(" ".join(words[:place] + [changed] + words[place + 1:]), place)

    def test_names(self):
        for name in ("D", "d1", "abcdefghi", "self", "d-", "1", "-", "/"):
            for line, word in ((f"open {name} k", 1), (f"open d {name}", 2), (f"move {name}", 1), (f"book {name} two", 1),
                               (f"book j {name}", 2), (f"restart {name}", 1), (f"open {name}", 1), (f"open {name} {name} x", 1)):
                self.wrong(line, word)

    def test_numbers(self):
        for number in ("01", "00", "-0", "-1", "+1", "1.0", "1000000", "0000001", "a", "1_0", "0x1", " "):
            self.wrong(f"close {number}", 1)
            self.wrong(f"count a={number}", 1)
            self.wrong(f"count a=0 b={number}", 2)
        self.refused(NoItem, {"number": 999999}, self.desk, "close 999999")

    def test_costs(self):
        for line, word in (("count a", 1), ("count a=", 1), ("count =1", 1), ("count a=1 a=1", 2), ("count b=1 a=1", 2),
                           ("count a=1 b", 2), ("count a=1 b=1 aa=1", 3), ("count A=1", 1), ("count a:1", 1),
                           ("count self=1", 1), ("count a=1 b=2=3", 2), ("count 0", 1), ("count -", 1)):
            self.wrong(line, word)

    def test_vectors(self):
        digits = "1" * 60
        self.assertEqual(self.desk(f"could a={digits} b=-{digits}"), "never")
        for words in ("a=0", "a=1 a=2", "b=1 a=1", "a", "a=", "=1", "a=01", "a=-0", "-", "0=1", "a=1 0", "a=" + "1" * 61,
                      "a=1 b=1 self=2", "A=1", "a=+1", "a=1 c"):
            with self.assertRaises(InvalidText) as caught:
                Vector.read(words)
            self.wrong("could " + words, caught.exception.word + 1)

    def test_weightings(self):
        self.assertEqual(self.desk("sum 999999 a + 999999 b"), "level")
        self.assertEqual(self.desk("sum 0 mod " + "9" * 60), "level")
        for words in ("+ a", "a + a", "b + a", "1 a", "0 a", "a + 0 b", "- a mod 4", "a - b mod 4", "4 a mod 4", "a mod 1",
                      "a mod " + "1" * 61, "1000000 a", "mod 4", "a + b + mod 4", "a mod 04", "a - - b", "- 2", "a + -1 b",
                      "a b", "a +b", "2a", "a mod x", "0 mod 2 3", "a mod 2 + b", "A", "a + self", "+"):
            with self.assertRaises(InvalidText) as caught:
                Weighting.read(words)
            self.wrong("sum " + words, caught.exception.word + 1)
        self.refused(UnknownName, {"name": "mod"}, self.desk, "sum a + mod")

    def test_by_chance(self):
        chance = random.Random(191)
        stock = ["d", "k", "a", "b", "0", "1", "-1", "01", "a=1", "a=0", "b=2", "b=-3", "+", "-", "mod", "2", "j", "two", "q",
                 "z", "", "\n", "7", "1000000", "self"]
        refused = 0
        for _ in range(4000):
            word = chance.choice(COMMANDS[1:])
            line = " ".join([word] + [chance.choice(stock) for _ in range(chance.randint(0, 4))])
            expected = wrong_word(line)
            desk = desk_of(PLAIN, "open d k", "settle")
            if expected is None:
                try:
                    self.assertIs(type(desk(line)), str)
                except (NetError, UnknownName, NoItem) as error:
                    self.assertNotIsInstance(error, UnknownCommand, line)
            else:
                refused += 1
                self.refused(UnknownCommand, {"word": expected}, desk, line)
        self.assertGreater(refused, 1000)


def wrong_word(line):
    """The word of a line that does not fit, by the readers of other texts; None if all fit."""
    word, _, rest = line.partition(" ")
    has_rest = line != word
    try:
        if word in ("open", "close", "move", "book", "restart", "settle"):
            if "\n" not in line:
                read_story(line)
                return None
            words = line.split(" ")
            place = next(at for at, part in enumerate(words) if "\n" in part)
            try:
                read_story(" ".join(words[:place]))
                return place
            except InvalidText as error:
                return min(place, error.word)
        if word in ("sum", "could"):
            if not has_rest:
                return 1
            (Weighting if word == "sum" else Vector).read(rest)
            return None
        if word == "count":
            last = ""
            for at, part in enumerate(line.split(" ")[1:], 1):
                if part in ("a=0", "a=1", "b=2") and part[0] > last:
                    last = part[0]
                else:
                    return at
            return None
    except InvalidText as error:
        return error.word + (1 if word in ("sum", "could") else 0)
    return 1 if has_rest else None


class TestUndo(Case):
    def test_nothing(self):
        desk = Desk()
        for count in (0, 1, -1, 2, True, False, None, "1", [1], (1,), {}, 10 ** 50, Vector(), b"1"):
            self.refused(NothingToUndo, {"count": count}, desk.undo, count)
            self.refused(NothingToUndo, {"count": count}, desk.undo, count=count)
        self.refused(NothingToUndo, {"count": 1}, desk.undo)
        self.refused(NothingToUndo, {"count": 1}, desk, "undo")
        desk("net")
        for count in (0, True, 2, -1, None, False):
            self.refused(NothingToUndo, {"count": count}, desk.undo, count)
        self.assertIsNone(desk.undo())
        self.refused(NothingToUndo, {"count": 1}, desk.undo)

    def test_several_lines(self):
        lines = (net_line(PLAIN), "open d k", "move d", "settle", "book j two", "restart q", "close 0", "settle",
                 net_line(KEPT), "open d k", "settle", "net", SMALL, "open d k")
        desk, states = Desk(), []
        for line in lines:
            states.append(desk.house())
            desk(line)
            # Lines that only ask, and those that are refused, are not among those that are taken back.
            for other in ("show", "table", "meant", "items", "drifts", "sum 0", "could 0"):
                desk(other)
            for wrong in ("", "open", "open zz k", "net x", "close 5", "undo 1"):
                with self.assertRaises((NetError, UnknownName, NoItem)):
                    desk(wrong)
        last = desk.house()
        for count in range(1, len(lines) + 1):
            other = Desk()
            for line in lines:
                other(line)
            self.assertEqual(other.house(), last)
            self.assertIsNone(other.undo(count))
            self.assertEqual(other.house(), states[-count])
            self.refused(NothingToUndo, {"count": len(lines) - count + 1}, other.undo, len(lines) - count + 1)
        for state in reversed(states):
            self.assertEqual(desk("undo"), "ok")
            self.assertEqual(desk.house(), state)
        self.refused(NothingToUndo, {"count": 1}, desk, "undo")

    def test_numbers_come_back(self):
        desk = desk_of(PLAIN)
        self.assertEqual((desk("open d k"), desk("undo"), desk("open d k"), desk("open d k")), ("0", "ok", "0", "1"))
        desk.undo(2)
        self.assertEqual((desk("items"), desk("open d k")), ("-", "0"))


class TestHouse(Case):
    def test_twins(self):
        desk = desk_of(PLAIN, "open d k", "settle")
        twin = desk.house()
        self.assertIsNot(twin, desk.house())
        twin.close(0)
        twin.settle()
        twin.use("j", "two")
        twin.set_most_open(0)
        self.assertEqual((desk("items"), desk("table"), desk("meant"), desk("open d k")), ("0:d:k", "a=1", "a=1", "1"))
        self.assertEqual(list(twin.open_items), [])
        desk.undo()
        other = desk.house()
        self.assertEqual((other.open_items, str(other.tallies), other.most_open), ({0: ("d", "k")}, "a=1", None))

    def test_led_by_chance(self):
        chance = random.Random(192)
        for _ in range(40):
            net = small_net(chance, 500)
            desk, house = desk_of(net), House(net)
            for _ in range(30):
                deed, answer = self.step(chance, net, house)
                self.alike(desk(" ".join(str(part) for part in deed)), answer)
                self.assertEqual(desk.house(), house)
            self.look(chance, net, desk, house)

    def step(self, chance, net, house):
        busy = [wire for wire in net.wires if house.wire(wire)]
        opened = list(house.open_items)
        way = chance.randrange(7)
        name = chance.choice(net.stations)
        if way < 2:
            door = chance.choice(net.doors)
            deed = ("open", door, chance.choice(net[door].kinds))
        elif way == 2 and opened:
            deed = ("close", chance.choice(opened))
        elif way == 3 and busy:
            deed = ("move", chance.choice(busy))
        elif way == 4:
            deed = ("book", name, chance.choice(net[name].books))
        elif way == 5:
            deed = ("restart", name)
        else:
            deed = ("settle",)
        result, = house.do(deed)
        return deed, ("ok" if result is None else " ".join(map(str, result)) if isinstance(result, tuple) else str(result))

    def look(self, chance, net, desk, house):
        items = house.open_items
        self.assertEqual(desk("table"), str(house.tallies))
        self.assertEqual(desk("meant"), str(house.meant))
        self.assertEqual(desk("items"), " ".join(f"{number}:{door}:{kind}" for number, (door, kind) in items.items()) or "-")
        self.assertEqual(desk("drifts"), str(drifts(net)))
        costs = {name: chance.randint(0, 9) for name in net.tallies}
        self.assertEqual(desk("count " + " ".join(f"{name}={cost}" for name, cost in costs.items())),
                         " ".join(recount(net, costs).counted) or "-")
        weighting = Weighting.of({name: chance.randint(-3, 3) for name in net.tallies})
        self.assertEqual(desk(f"sum {weighting}"), sums_report(net, weighting).split(" ")[-1])
        desk("settle")
        table = desk.house().tallies
        if len(items) < 5:
            self.assertEqual(desk(f"could {table}"), "left")
            near = table + Vector(ta=chance.choice([1, -1]))
            self.assertEqual(desk(f"could {near}"), explained(net, near, *items.values())[0])

    def test_desks_are_apart(self):
        one, other = desk_of(PLAIN), Desk()
        self.assertEqual((one("show") != "-", other("show")), (True, "-"))
        one("open d k")
        self.assertEqual((one("items"), other("items")), ("0:d:k", "-"))
