"""Certificates of plans are checked here; no history is run, and nothing is searched."""

from evenends.courses import is_course
from evenends.memories import check_plan, choices_by, net_with
from evenends.names import is_integer
from evenends.sumcheck import is_told, shows_worths


def shows_plan(net, costs, weightings, thing):
    """Whether any value shows which choice of stations is the first one that will do, or that none will."""
    check_plan(net, costs, weightings)
    choices = choices_by(costs)
    if is_told(thing, "none", 2):
        return are_refused(net, choices, weightings, thing[1])
    if not is_told(thing, "plan", 4) or thing[1] not in choices:
        return False
    _, choice, papers, refused = thing
    if not are_papers(net_with(net, choice), weightings, papers):
        return False
    return are_refused(net, choices[:choices.index(choice)], weightings, refused)


def are_papers(net, weightings, value):
    """Whether any value is a tuple of worths of weightings, in order."""
    if not isinstance(value, tuple) or len(value) != len(weightings):
        return False
    return all([shows_worths(net, weighting, worths) for weighting, worths in zip(weightings, value)])


def are_refused(net, choices, weightings, value):
    """Whether any value is a tuple that shows for each choice, in order, that it will not do."""
    if not isinstance(value, tuple) or len(value) != len(choices):
        return False
    return all([is_refused(net, choice, weightings, row) for choice, row in zip(choices, value)])


def is_refused(net, choice, weightings, value):
    """Whether any value tells a choice, a weighting, and a course for whose drift its sum is not 0."""
    if not isinstance(value, tuple) or len(value) != 3 or value[0] != choice:
        return False
    _, index, course = value
    if not is_integer(index) or not 0 <= index < len(weightings):
        return False
    return is_course(net_with(net, choice), course) and weightings[index](course.drift) != 0
