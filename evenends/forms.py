"""Forms: which numbers the tallies of a net can show at rest."""

from evenends.bases import pair_bases
from evenends.makers import Maker
from evenends.meetings import Meetings
from evenends.points import vector_at
from evenends.residues import all_residues, course_with
from evenends.scales import TableScale
from evenends.wirekeys import door_kinds


class Form:
    """The drifts of a net and the residues of each door and kind."""

    def __init__(self, lattice, residues):
        self.lattice = lattice
        self._residues = {key: tuple(residues[key]) for key in sorted(residues)}

    @property
    def residues(self):
        """A new dict from tuples (door, kind), ascending, to the tuples of the residues."""
        return {key: self._residues[key] for key in self._residues}

    def __eq__(self, other):
        return isinstance(other, Form) and self.lattice == other.lattice and self._residues == other._residues


def form(net):
    """The form of a net."""
    meetings = Meetings(net)
    lattice = Maker(meetings).all_drifts()
    residues = all_residues(meetings, TableScale(lattice, net.tallies))
    return Form(lattice, {key: vectors_at(net, residues[key]) for key in door_kinds(net)})


def form_paper(net):
    """A certificate for the form of a net."""
    meetings = Meetings(net)
    maker = Maker(meetings)
    lattice = maker.all_drifts()
    scale = TableScale(lattice, net.tallies)
    residues = all_residues(meetings, scale)
    bases = pair_bases(meetings, scale)
    worths = {key: vector_at(net.tallies, bases[key]) for key in bases}
    begins = {key: tuple(vectors_at(net, residues[key])) for key in residues}
    closed = tuple([maker.made(vector) for vector in lattice.basis])
    opened = {key: tuple([course_with(net, residues, key, residue) for residue in residues[key]])
              for key in door_kinds(net)}
    return worths, begins, closed, opened


def vectors_at(net, points):
    """A list of the vectors that have the numbers of points at the tallies of a net."""
    return [vector_at(net.tallies, point) for point in points]
