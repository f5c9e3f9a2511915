"""How the parts of a net hang together, and what can be wrong with that."""

from evenends.errors import InvalidNet
from evenends.names import in_order
from evenends.parts import Door, Tally
from evenends.stations import Station


def check_parts(parts):
    """Checks any values of which a net should be made."""
    if not all([isinstance(part, (Door, Station, Tally)) for part in parts]):
        raise InvalidNet("part", None)
    refuse("name", least_double(names_of(parts)))
    refuse("goal", least_astray(parts))
    refuse("row", least_misled(parts))
    steps = steps_of(parts)
    refuse("ring", least_ring(steps))
    refuse("ways", least_met_twice(parts, steps))


def refuse(reason, name):
    """Raises InvalidNet if there is a name that makes a net wrong."""
    if name is not None:
        raise InvalidNet(reason, name)


def stations_of(parts):
    """A list of the stations among the parts."""
    return [part for part in parts if isinstance(part, Station)]


def doors_of(parts):
    """A list of the doors among the parts."""
    return [part for part in parts if isinstance(part, Door)]


def names_of(parts):
    """The names of the parts and of all wires of stations, each as often as it is used."""
    names = [part.name for part in parts]
    for station in stations_of(parts):
        names.extend(list(station.wires))
    return names


def goals_of(parts):
    """A dict from all wires, ascending, to their goals."""
    goals = {door.name: door.target for door in doors_of(parts)}
    for station in stations_of(parts):
        goals.update(station.wires)
    return in_order(goals)


def starts_of(parts):
    """A dict from the wires of stations to their stations."""
    return {wire: station.name for station in stations_of(parts) for wire in station.wires}


def kinds_of(part):
    """A list of the kinds that a part tells."""
    if isinstance(part, Door):
        return list(part.kinds)
    if isinstance(part, Tally):
        return list(part.amounts)
    kinds = []
    for name in part.books:
        book = part.book(name)
        kinds.extend(book.kinds)
        for kind in book.kinds:
            kinds.extend(list(book.row(kind).values()))
    return kinds


def least_double(names):
    """The least name that is there twice, or None."""
    ordered = sorted(names)
    return min([one for one, other in zip(ordered, ordered[1:]) if one == other], default=None)


def least_astray(parts):
    """The least wire whose goal is no station and no tally, or None."""
    ends = [part.name for part in parts if not isinstance(part, Door)]
    goals = goals_of(parts)
    return min([wire for wire in goals if goals[wire] not in ends], default=None)


def least_misled(parts):
    """The least station with a book that leads a wire which the station does not have, or None."""
    return min([station.name for station in stations_of(parts) if is_misled(station)], default=None)


def is_misled(station):
    """Whether a book of a station leads a wire that the station does not have."""
    wires = station.wires
    return any([wire not in wires for name in station.books for wire in station.book(name).wires])


def steps_of(parts):
    """A dict from each station to a list: for each of its wires that leads to a station, that station."""
    stations = stations_of(parts)
    names = [station.name for station in stations]
    return {station.name: [goal for goal in station.wires.values() if goal in names] for station in stations}


def reached(steps, firsts):
    """A dict whose keys are some stations and all those to which ways lead from them."""
    found = {}
    left = list(firsts)
    while left:
        name = left.pop()
        if name not in found:
            found[name] = True
            left.extend(steps[name])
    return found


def least_ring(steps):
    """The least station from which a way leads back to it, or None."""
    return min([name for name in steps if name in reached(steps, steps[name])], default=None)


def least_met_twice(parts, steps):
    """The least station to which two ways lead from one door, or None, in a net without rings."""
    goals = [door.target for door in doors_of(parts) if door.target in steps]
    return min([name for goal in goals for name in met_twice(steps, goal)], default=None)


def met_twice(steps, goal):
    """A list of the stations to which two ways lead from a door that leads to a station."""
    met = {}
    again = []
    left = [goal]
    while left:
        name = left.pop()
        if name in met:
            again.append(name)
        else:
            met[name] = True
            left.extend(steps[name])
    # Two ways to a station go on as two ways to all that lies behind it.
    return list(reached(steps, again))
