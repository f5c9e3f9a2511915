"""The texts of nets."""

from evenends.books import Book, read_rows
from evenends.errors import InvalidText
from evenends.parts import Door, Tally
from evenends.stations import station_of
from evenends.texts import OTHER_DIGITS, lines_of, numbers_text, read_link, read_numbers

# The lines of a net stand in the order of these numbers; books stand behind their stations.
PLACES = {"door": 0, "station": 1, "keeper": 1, "frail": 1, "tally": 2}


def net_text(net):
    """The text of a net."""
    lines = [door_line(net[name]) for name in net.doors]
    for name in net.stations:
        lines.extend(station_lines(net[name]))
    lines.extend([tally_line(net[name]) for name in net.tallies])
    return "\n".join(lines)


def door_line(door):
    """The line of a door."""
    return " ".join(["door", door.name, door.target, *door.kinds])


def station_lines(station):
    """The line of a station, and those of its books."""
    wires = station.wires
    links = [f"{wire}>{wires[wire]}" for wire in wires]
    books = [f"book {name} {station.book(name)}" for name in station.books]
    return [" ".join([station.KIND, station.name, *links]), *books]


def tally_line(tally):
    """The line of a tally."""
    amounts = tally.amounts
    if not amounts:
        return f"tally {tally.name}"
    return f"tally {tally.name} {numbers_text(amounts)}"


def read_parts(text):
    """The list of the parts that the text of a net tells."""
    lines = lines_of(text)
    reader = PartReader()
    for line in lines:
        reader.take(line)
    reader.finish(len(lines))
    return reader.parts


class PartReader:
    """Takes the lines of a net, one after another."""

    def __init__(self):
        self.parts = []
        self._place = 0
        self._last = ""
        self._draft = None

    def take(self, line):
        """Takes the next line."""
        word = line.words[0]
        if not self._can_stand(word):
            raise InvalidText(line.index, 0)
        if word == "book":
            self._draft.take(line)
            return
        self._end_station()
        if PLACES[word] > self._place:
            self._place = PLACES[word]
            self._last = ""
        self._last = line.name_above(1, self._last)
        if word == "door":
            self.parts.append(Door.of(self._last, line.name_at(2), read_kinds(line)))
        elif word == "tally":
            self.parts.append(Tally.of(self._last, read_numbers(line, 2, OTHER_DIGITS)))
        else:
            self._draft = StationDraft(word, self._last, read_wires(line))

    def finish(self, index):
        """Ends the text; index is that of the line behind the last one."""
        if self._lacks_book():
            raise InvalidText(index, 0)
        self._end_station()

    def _can_stand(self, word):
        """Whether a line with this first word can stand behind those that were taken."""
        if word == "book":
            return self._draft is not None
        return word in PLACES and PLACES[word] >= self._place and not self._lacks_book()

    def _lacks_book(self):
        return self._draft is not None and not self._draft.shelf

    def _end_station(self):
        """Makes a station of the draft, if there is one."""
        if self._draft is not None:
            self.parts.append(self._draft.station())
            self._draft = None


class StationDraft:
    """A station whose books are being read."""

    def __init__(self, kind, name, wires):
        self.kind = kind
        self.name = name
        self.links = wires
        self.shelf = []

    def take(self, line):
        """Takes the line of the next book."""
        name = line.name_at(1)
        if name in [book[0] for book in self.shelf]:
            raise InvalidText(line.index, 1)
        self.shelf.append((name, Book.of(read_rows(line, 2))))

    def station(self):
        """The station that was read."""
        return station_of(self.kind, self.name, self.links, self.shelf)


def read_kinds(line):
    """The kinds that the line of a door tells, one or more."""
    kinds = [line.name_at(3)]
    for at in range(4, len(line.words)):
        kinds.append(line.name_above(at, kinds[-1]))
    return kinds


def read_wires(line):
    """The dict from wires to goals that the line of a station tells."""
    wires = {}
    last = ""
    for at in range(2, len(line.words)):
        link = read_link(line.words[at], ">", last)
        if link is None:
            raise InvalidText(line.index, at)
        last, goal = link
        wires[last] = goal
    return wires
