"""Items that are told, and tables beside which they are told."""

from evenends.errors import InvalidItem
from evenends.weightings import check_tallies

# How many different sums of residues of items are looked at.
MOST_SUMS = 1000


def check_shown(net, table, items):
    """Checks that the names of a table are tallies, and that any values in a list or tuple are items of a net."""
    check_tallies(net, table)
    for index, item in enumerate(items):
        if not is_item(net, item):
            raise InvalidItem(index)


def is_item(net, value):
    """Whether any value is a tuple of a door and a kind that opens there."""
    if not isinstance(value, tuple) or len(value) != 2:
        return False
    return value[0] in net.doors and value[1] in net[value[0]].kinds
