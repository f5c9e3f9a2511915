"""Forms: which numbers the tallies of a net can show at rest."""

from evenends.shapes import Shape


class Form:
    """The drifts of a net and the residues of each door and kind."""

    def __init__(self, lattice, residues):
        self.lattice = lattice
        self._residues = {key: tuple(residues[key]) for key in sorted(residues)}

    @property
    def residues(self):
        """A new dict from tuples (door, kind), ascending, to the tuples of the residues."""
        return {key: self._residues[key] for key in self._residues}

    def __eq__(self, other):
        return isinstance(other, Form) and self.lattice == other.lattice and self._residues == other._residues


def form(net):
    """The form of a net."""
    shape = Shape(net)
    return Form(shape.lattice, shape.at_doors())


def form_paper(net):
    """A certificate for the form of a net."""
    shape = Shape(net)
    closed = tuple([shape.maker.made(vector) for vector in shape.lattice.basis])
    return shape.worths(), shape.begins_told(), closed, shape.courses()
