"""Costs of tallies and of stations."""

from evenends.errors import InvalidCosts, TooMany
from evenends.names import is_integer
from evenends.stations import Station

# For how many stations a plan can be asked.
MOST_STATIONS = 6


def is_cost(value):
    """Whether any value is an integer from 0 on."""
    return is_integer(value) and value >= 0


def check_costs(net, costs):
    """Checks that any value is a dict that has a cost for each tally of a net, and for nothing else."""
    if not isinstance(costs, dict):
        raise InvalidCosts(None)
    wrong = strange_keys(costs, net.tallies)
    wrong.extend([name for name in net.tallies if not is_cost(costs.get(name))])
    if wrong:
        raise InvalidCosts(wrong[0])


def check_station_costs(net, costs):
    """Checks that any value is a dict that has costs for plain stations of a net alone, not too many."""
    if not isinstance(costs, dict):
        raise InvalidCosts(None)
    wrong = by_repr([name for name in costs if not is_plain(net, name) or not is_cost(costs[name])])
    if wrong:
        raise InvalidCosts(wrong[0])
    if len(costs) > MOST_STATIONS:
        raise TooMany(MOST_STATIONS)


def is_plain(net, name):
    """Whether any value is the name of a plain station of a net."""
    return name in net.stations and net[name].KIND == Station.KIND


def strange_keys(table, names):
    """A list of the keys of a dict that are none of some names, in order by repr."""
    return by_repr([key for key in table if key not in names])


def by_repr(values):
    """A list of any values, in order by repr."""
    return sorted(values, key=lambda value: repr(value))
