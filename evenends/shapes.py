"""What the form of a net is made of."""

from evenends.makers import Maker
from evenends.meetings import Meetings
from evenends.points import vector_at
from evenends.residues import all_residues, course_with
from evenends.scales import TableScale
from evenends.wirekeys import door_kinds


class Shape:
    """The drifts of a net, and what begins add to its tallies, reduced by them."""

    def __init__(self, net):
        self.net = net
        self._meetings = Meetings(net)
        self.maker = Maker(self._meetings)
        self.lattice = self.maker.all_drifts()
        self.scale = TableScale(self.lattice, net.tallies)
        # For each wire and kind with which a begin comes there: the residues, as points, and how begins have them.
        self.by_kind = all_residues(self._meetings, self.scale)

    def residues_of(self, key):
        """The tuple of the residues of a kind at a wire, in order."""
        return tuple([vector_at(self.net.tallies, point) for point in self.by_kind[key]])

    def at_doors(self):
        """A dict from the doors and kinds to the tuples of their residues."""
        return {key: self.residues_of(key) for key in door_kinds(self.net)}

    def courses(self):
        """A dict from the doors and kinds to the tuples of courses whose begins have the residues, in order."""
        return {key: tuple([self.course_for(key, point) for point in self.by_kind[key]])
                for key in door_kinds(self.net)}

    def course_for(self, key, point):
        """A course of a door and kind whose begin has the residue that a point tells."""
        return course_with(self.net, self.by_kind, key, point)

    def worths(self):
        """A dict from the met pairs to their bases, reduced by the drifts."""
        points = self.maker.bases.reduced_by_key(self.scale)
        # Many pairs have one base, and vectors never change.
        vectors = {point: vector_at(self.net.tallies, point) for point in points.values()}
        return {key: vectors[points[key]] for key in points}

    def begins_told(self):
        """A dict from the wires and kinds with which a begin comes to the tuples of the residues."""
        return {key: self.residues_of(key) for key in self.by_kind}
