"""Plans: the cheapest stations to be given a memory so that sums are clean."""

from evenends.meetings import Meetings
from evenends.memories import check_plan, choices_by, net_with
from evenends.sums import cleaned


def plan(net, costs, *weightings):
    """The first choice of stations with whose memory all weightings are clean, and why no earlier one will do."""
    check_plan(net, costs, weightings)
    refused = []
    for choice in choices_by(costs):
        papers, spoilt = looked_at(net_with(net, choice), weightings)
        if not spoilt:
            return "plan", choice, papers, tuple(refused)
        refused.append((choice, *spoilt))
    return "none", tuple(refused)


def looked_at(net, weightings):
    """The tuple of the worths of weightings, and (); or those of the first ones, and the next one with a course."""
    meetings = Meetings(net)
    papers = []
    for index, weighting in enumerate(weightings):
        word, told = cleaned(meetings, weighting)
        if word != "clean":
            return tuple(papers), (index, told)
        papers.append(told)
    return tuple(papers), ()
