"""Nets that show the same tables, and what tells others apart."""

from evenends.errors import NotComparable
from evenends.forms import form
from evenends.wirekeys import door_kinds


def alike(one, other):
    """Whether two nets show the same tables for the same open items; otherwise a table that one of them shows alone."""
    if one.tallies != other.tallies:
        raise NotComparable("tallies")
    if door_kinds(one) != door_kinds(other):
        raise NotComparable("doors")
    forms = [form(one), form(other)]
    for side in (0, 1):
        tables = shown_alone(forms[side], forms[1 - side])
        if tables:
            items, table = tables[0]
            return "unlike", items, table, side
    return ("alike",)


def shown_alone(here, there):
    """A list of tuples (items, table): tables that one form tells and another one does not, with one item at most."""
    tables = [((), vector) for vector in here.lattice.basis if vector not in there.lattice]
    if here.lattice == there.lattice:
        residues = here.residues
        others = there.residues
        for key in residues:
            tables.extend([((key,), residue) for residue in residues[key] if residue not in others[key]])
    return tables
