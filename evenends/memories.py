"""Choices of stations that could be given a memory."""

from evenends.costs import check_station_costs
from evenends.weightings import check_tallies


def check_plan(net, costs, weightings):
    """Checks any value that should be costs of stations, and that the names of weightings are tallies."""
    check_station_costs(net, costs)
    for weighting in weightings:
        check_tallies(net, weighting)


def choices_by(costs):
    """A list of all ascending tuples of the stations that have costs, the cheapest ones first."""
    choices = [()]
    for name in sorted(costs):
        choices = [*choices, *[(*fewer, name) for fewer in choices]]
    return sorted(choices, key=lambda choice: (cost_of(costs, choice), len(choice), choice))


def cost_of(costs, choice):
    """The sum of the costs of the stations of a choice."""
    return sum([costs[name] for name in choice])


def net_with(net, choice):
    """The net in which the stations of a choice are keepers."""
    changed = net
    for name in choice:
        changed = changed.as_keeper(name)
    return changed
