"""Doors and tallies, the ends of a net."""

from evenends.errors import InvalidPart
from evenends.names import gives_integers, is_name, kept_numbers


class Door:
    """Leads what opens there to its goal."""

    def __init__(self, name, goal, *kinds):
        check_door(name, goal, kinds)
        self.name = name
        self.target = goal
        self.kinds = tuple(sorted(kinds))

    @classmethod
    def of(cls, name, goal, kinds):
        """The door with the kinds of a list or tuple."""
        check_door(name, goal, kinds)
        return cls(name, goal, *kinds)

    def __eq__(self, other):
        return (isinstance(other, Door) and self.name == other.name
                and self.target == other.target and self.kinds == other.kinds)


class Tally:
    """Goes up and down by its amounts."""

    def __init__(self, name, **amounts):
        check_tally(name, amounts)
        self.name = name
        self._amounts = kept_numbers(amounts)

    @classmethod
    def of(cls, name, amounts):
        """The tally with the amounts of a dict."""
        check_tally(name, amounts)
        tally = Tally(name)
        # A kind can be called name, so the amounts cannot be passed as keywords.
        tally._amounts = kept_numbers(amounts)
        return tally

    @property
    def amounts(self):
        """A new dict from kinds to their amounts other than 0."""
        return dict(self._amounts)

    def __getitem__(self, at):
        if not isinstance(at, str):
            return 0
        return self._amounts.get(at, 0)

    def __iter__(self):
        raise TypeError("a tally is not iterated over, but its amounts are")

    def __eq__(self, other):
        return isinstance(other, Tally) and self.name == other.name and self._amounts == other._amounts


def check_door(name, goal, kinds):
    """Checks any values of which a door should be made."""
    if not is_name(name):
        raise InvalidPart("name")
    if not is_name(goal):
        raise InvalidPart("goal")
    if not isinstance(kinds, (list, tuple)) or not kinds:
        raise InvalidPart("kinds")
    if not all([is_name(kind) for kind in kinds]) or len(set(kinds)) < len(kinds):
        raise InvalidPart("kinds")


def check_tally(name, amounts):
    """Checks any values of which a tally should be made."""
    if not is_name(name):
        raise InvalidPart("name")
    if not gives_integers(amounts):
        raise InvalidPart("amounts")
