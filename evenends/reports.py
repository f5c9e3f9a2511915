"""Reports: what is told of nets and of sums, as texts."""

from evenends.makers import Maker
from evenends.meetings import Meetings
from evenends.sums import level
from evenends.weightings import check_tallies

# For the first word of what level tells: the word for the weighting.
WORDS = {"level": "level", "begins": "clean", "drifts": "drifts"}


def report(net):
    """A text of lines: the wires with their goals and how many pairs are met there, and the drifts."""
    meetings = Meetings(net)
    counts = {wire: 0 for wire in net.wires}
    for wire, _, _ in meetings.links:
        counts[wire] += 1
    lines = [f"{wire:<8} {net.goal(wire):<8} {counts[wire]:>3}" for wire in net.wires]
    lines.extend([f"drift {vector}" for vector in Maker(meetings).all_drifts().basis])
    return "\n".join(lines)


def sums_report(net, *weightings):
    """A text of lines: the texts of weightings and what they are worth in a net."""
    for weighting in weightings:
        check_tallies(net, weighting)
    return "\n".join([f"{str(weighting):<30} {word_for(net, weighting)}" for weighting in weightings])


def word_for(net, weighting):
    """Whether a weighting is level; clean, but not level; or neither: a word."""
    told = level(net, weighting)
    return WORDS[told[0]]
