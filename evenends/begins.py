"""What the begins of items add to the tallies."""

from evenends.parts import Tally


def begins_by(net, in_force, items):
    """The numbers that the begins of items, tuples (door, kind), add to tallies by the books in force."""
    numbers = {}
    left = list(items)
    while left:
        wire, kind = left.pop()
        goal = net[net.goal(wire)]
        if isinstance(goal, Tally):
            numbers[goal.name] = numbers.get(goal.name, 0) + goal[kind]
        else:
            row = goal.book(in_force[goal.name]).row(kind)
            left.extend(list(row.items()))
    return numbers
