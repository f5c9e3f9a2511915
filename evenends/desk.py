"""Desks: houses that are led by lines of text."""

from evenends.commands import read_command
from evenends.deeds import SIZES
from evenends.drifts import drifts
from evenends.errors import NothingToUndo
from evenends.explained import explained
from evenends.houses import House
from evenends.names import is_integer
from evenends.nets import Net
from evenends.recounts import recount
from evenends.reports import word_for


class Desk:
    """A house that is led by lines, at first of the net without parts."""

    def __init__(self):
        self._house = House(Net())
        # For each line that can be taken back: the house as it was before.
        self._past = []

    def say(self, line):
        """Carries out a line and returns its answer."""
        word, told = read_command(line)
        if word == "undo":
            self.undo()
            return "ok"
        if word == "net":
            self._take(House(Net.read(told)))
            return "ok"
        if word in SIZES:
            house = self._house.twin()
            results = house.do(told)
            self._take(house)
            return answer_to(word, results[0])
        return asked(self._house, word, told)

    def __call__(self, line):
        return self.say(line)

    def house(self):
        """A twin of the house."""
        return self._house.twin()

    def undo(self, count=1):
        """Takes back the last lines that changed the house or took another one."""
        if not is_integer(count) or not 1 <= count <= len(self._past):
            raise NothingToUndo(count)
        self._house = self._past[-count]
        self._past = self._past[:-count]

    def _take(self, house):
        """Has another house from now on."""
        self._past.append(self._house)
        self._house = house


def answer_to(word, result):
    """The answer to the line of a deed, by what the house returned."""
    if word in ("open", "settle"):
        return str(result)
    if word == "move":
        return " ".join([str(part) for part in result])
    return "ok"


def asked(house, word, told):
    """The answer to a line that changes nothing."""
    net = house.net
    if word == "show":
        return str(net).replace("\n", " / ") or "-"
    if word == "table":
        return str(house.tallies)
    if word == "meant":
        return str(house.meant)
    if word == "items":
        items = house.open_items
        return " ".join([f"{number}:{items[number][0]}:{items[number][1]}" for number in items]) or "-"
    if word == "drifts":
        return str(drifts(net))
    if word == "sum":
        return word_for(net, told)
    if word == "could":
        items = list(house.open_items.values())
        return explained(net, told, *items)[0]
    return " ".join(recount(net, told).counted) or "-"
