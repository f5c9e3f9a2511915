"""Courses: what one item can do in a net."""

from evenends.errors import InvalidCourse
from evenends.names import in_order
from evenends.parts import Tally
from evenends.stations import Frail
from evenends.vectors import Vector


class Course:
    """A door, a kind that opens there, and a choice for each station."""

    def __init__(self, net, door, kind, **choices):
        check_course(net, door, kind, choices)
        self.net = net
        self.door = door
        self.kind = kind
        self._choices = all_choices(net, choices)

    @classmethod
    def of(cls, net, door, kind, choices):
        """The course with the choices of a dict."""
        check_course(net, door, kind, choices)
        course = Course(net, door, kind)
        # A station can be called net, door or kind, so the choices cannot be passed as keywords.
        course._choices = all_choices(net, choices)
        return course

    @property
    def choices(self):
        """A new dict from all stations to choices of three parts."""
        return dict(self._choices)

    @property
    def pairs(self):
        """A new dict from the wires that have a pair to the pairs."""
        return pairs_on_wires(self.net, self.door, self.kind, self._choices)

    @property
    def passed(self):
        """The ascending tuple of the stations to which a pair comes."""
        return tuple(sorted(pairs_at_stations(self.net, self.pairs)))

    @property
    def begin(self):
        """The vector that the begin of the item adds to the tallies."""
        return amounts_of(self.net, self.pairs, 0)

    @property
    def drift(self):
        """The vector that the item leaves in the tallies when it has closed."""
        on_wires = self.pairs
        return amounts_of(self.net, on_wires, 0) - amounts_of(self.net, on_wires, 1)

    def turned(self):
        """A tuple of courses whose drifts add up to minus the drift of this one."""
        if not self.drift:
            return ()
        layers = layers_of(self.net, self.pairs, self._choices)
        courses = [self._turned_at(layers, layer) for layer in range(max(list(layers.values())) + 1)]
        return tuple([course for course in courses if course.drift])

    def with_choice(self, station, choice):
        """The course with another choice at a station."""
        if station not in self.net.stations:
            raise InvalidCourse("station")
        choices = self.choices
        choices[station] = choice
        return Course.of(self.net, self.door, self.kind, choices)

    def story(self, number=0, *, closes=True):
        """A tuple of deeds by which the item with this number takes this course in a house at rest."""
        at_stations = pairs_at_stations(self.net, self.pairs)
        deeds = [("open", self.door, self.kind)]
        for name in at_stations:
            deeds.extend(self._deeds_for_begin(name, at_stations[name]))
        deeds.append(("settle",))
        if closes:
            for name in at_stations:
                deeds.extend(self._deeds_for_end(name, at_stations[name]))
            deeds.extend([("close", number), ("settle",)])
        return tuple(deeds)

    def __eq__(self, other):
        return (isinstance(other, Course) and self.net == other.net and self.door == other.door
                and self.kind == other.kind and self._choices == other._choices)

    def _turned_at(self, layers, layer):
        """A course that leaves minus what this one leaves at the tallies of a layer, and nothing else."""
        choices = {}
        for name in layers:
            first, second, forgets = self._choices[name]
            if layers[name] < layer:
                choices[name] = (first, first, False)
            elif layers[name] == layer:
                choices[name] = (second, first, forgets)
        return Course.of(self.net, self.door, self.kind, choices)

    def _deeds_for_begin(self, name, pair):
        """The deeds without which the begin would not pass a station as it should."""
        if pair[0] is None:
            return []
        return [("book", name, self._choices[name][0])]

    def _deeds_for_end(self, name, pair):
        """The deeds without which the end would not pass a station as it should."""
        first, second, forgets = self._choices[name]
        begin, end = pair
        if end is None or remembers(self.net[name], pair, forgets):
            return []
        deeds = []
        if begin is None or second != first:
            deeds.append(("book", name, second))
        if begin is not None and forgets:
            deeds.append(("restart", name))
        return deeds


def check_course(net, door, kind, choices):
    """Checks any values of which a course of a net should be made."""
    if door not in net.doors:
        raise InvalidCourse("door")
    if kind not in net[door].kinds:
        raise InvalidCourse("kind")
    if not isinstance(choices, dict) or not all([name in net.stations for name in choices]):
        raise InvalidCourse("station")
    if not all([isinstance(choice, tuple) and len(choice) in (2, 3) for choice in choices.values()]):
        raise InvalidCourse("choice")
    if not all([tells_books(net[name], choices[name]) for name in choices]):
        raise InvalidCourse("book")
    if not all([may_forget(net[name], choices[name]) for name in choices]):
        raise InvalidCourse("forgets")


def tells_books(station, choice):
    """Whether the first two parts of a choice are names of books of a station."""
    return choice[0] in station.books and choice[1] in station.books


def may_forget(station, choice):
    """Whether the third part of a choice, if it has one, can stand at a station."""
    if len(choice) == 2:
        return True
    return isinstance(choice[2], bool) and (isinstance(station, Frail) or not choice[2])


def all_choices(net, choices):
    """A dict from all stations to choices of three parts."""
    told = {}
    for name in net.stations:
        first = net[name].first
        choice = choices.get(name, (first, first))
        told[name] = choice if len(choice) == 3 else (*choice, False)
    return told


def pairs_on_wires(net, door, kind, choices):
    """The pairs on the wires, ascending, if something of this kind opens at a door."""
    found = {door: (kind, kind)}
    left = [door]
    while left:
        wire = left.pop()
        name = net.goal(wire)
        if name in choices:
            begin, end = found[wire]
            outcome = net[name].outcome_by(choices[name], begin, end)
            found.update(outcome)
            left.extend(list(outcome))
    return in_order(found)


def pairs_at_stations(net, on_wires):
    """A dict from the stations to which pairs come to these pairs, by the pairs on the wires."""
    goals = {wire: net.goal(wire) for wire in on_wires}
    return {goals[wire]: on_wires[wire] for wire in on_wires if not isinstance(net[goals[wire]], Tally)}


def amounts_of(net, on_wires, part):
    """The vector of the amounts of one part, 0 or 1, of the pairs on the wires into tallies."""
    numbers = {}
    for wire in on_wires:
        goal = net[net.goal(wire)]
        if isinstance(goal, Tally):
            numbers[goal.name] = numbers.get(goal.name, 0) + goal[on_wires[wire][part]]
    return Vector.of(numbers)


def remembers(station, pair, forgets):
    """Whether a station sends the end of a pair by the row that it remembers of its begin."""
    return station.KEEPS and not forgets and pair[0] is not None and pair[1] is not None


def layers_of(net, on_wires, choices):
    """For each station to which a pair comes: how many stations above it remember a row for it."""
    layers = {}
    left = [(wire, 0) for wire in on_wires if net.start(wire) is None]
    while left:
        wire, layer = left.pop()
        name = net.goal(wire)
        if name in choices:
            layers[name] = layer
            if remembers(net[name], on_wires[wire], choices[name][2]):
                layer = layer + 1
            left.extend([(other, layer) for other in net[name].wires if other in on_wires])
    return layers


def is_course(net, value):
    """Whether any value is a course of a net that is equal to this one."""
    return isinstance(value, Course) and value.net == net


def is_course_for(net, item, value):
    """Whether any value is a course of a net that is equal to this one, for an item: a tuple (door, kind)."""
    return is_course(net, value) and (value.door, value.kind) == item


def are_alike(net, one, other):
    """Whether any two values are courses of nets that are equal to this one, for one door and kind."""
    return is_course(net, one) and is_course_for(net, (one.door, one.kind), other)
