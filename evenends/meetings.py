"""Which pairs are met at the wires of a net, and by which courses."""

from evenends.courses import Course
from evenends.forks import Forks
from evenends.wirekeys import door_pairs, tally_behind


class Meetings:
    """All pairs that are met at the wires of a net, as keys (wire, x, y)."""

    def __init__(self, net):
        self.net = net
        self.forks = Forks(net)
        # For each key: None at a door, otherwise the key above it, the choice there whose outcome has it, and the
        # number of this outcome. Each key stands behind the one above it.
        self.links = {key: None for key in door_pairs(net)}
        # For each key: the outcomes at the goal of its wire, each with its first choice. There are none at tallies.
        self.under = {}
        self._search()

    def upwards(self):
        """A list of the keys in which each stands behind all those below it."""
        heights = heights_of(self.net)
        return sorted(list(self.links), key=lambda key: heights[key[0]])

    def begins(self):
        """A dict whose keys (wire, kind) tell where a begin comes with which kind, and its values a key of each.

        Each stands behind all those below it.
        """
        return {(wire, begin): (wire, begin, end) for wire, begin, end in self.upwards() if begin is not None}

    def course(self, key):
        """A course that has a met pair at its wire; stations that do not matter have their first books."""
        choices = {}
        place = key
        while self.links[place] is not None:
            place, choice, _ = self.links[place]
            choices[self.net.goal(place[0])] = choice
        return Course.of(self.net, place[0], place[1], choices)

    def course_by(self, key, choice):
        """A course that has a met pair at its wire and makes this choice at the station to which the wire leads."""
        return self.course(key).with_choice(self.net.goal(key[0]), choice)

    def _search(self):
        left = list(self.links)
        seen = {}
        while left:
            key = left.pop()
            steps = self.forks.steps(key)
            self.under[key] = steps
            for choice, number in steps:
                if number not in seen:
                    seen[number] = True
                    new = [other for other in self.forks.keys_of(number) if other not in self.links]
                    self.links.update({other: (key, choice, number) for other in new})
                    left.extend(new)


def heights_of(net):
    """A dict from all wires to numbers, each greater than those of the wires of the station to which the wire leads."""
    heights = {}
    left = list(net.wires)
    while left:
        wire = left.pop(0)
        below = list(net[net.goal(wire)].wires) if tally_behind(net, wire) is None else []
        if all([other in heights for other in below]):
            heights[wire] = 1 + max([heights[other] for other in below], default=0)
        else:
            left.append(wire)
    return heights
