"""The state of a house: all that changes in it."""


class State:
    """What a house knows; its dicts are changed by the house alone."""

    def __init__(self, net):
        self.in_force = {name: net[name].first for name in net.stations}
        self.remembered = {name: {} for name in net.stations}
        self.queues = {wire: [] for wire in net.wires}
        self.table = {name: 0 for name in net.tallies}
        self.opened = {}
        self.upcoming = 0
        self.most = None

    def __eq__(self, other):
        return (isinstance(other, State) and self.in_force == other.in_force and self.remembered == other.remembered
                and self.queues == other.queues and self.table == other.table and self.opened == other.opened
                and self.upcoming == other.upcoming and self.most == other.most)


def same_state(net, old):
    """A new state of a net that is equal to another one."""
    state = State(net)
    state.in_force = dict(old.in_force)
    # Remembered rows and notices never change, so both states may have the same ones.
    state.remembered = {name: dict(rows) for name, rows in old.remembered.items()}
    state.queues = {wire: list(queue) for wire, queue in old.queues.items()}
    state.table = dict(old.table)
    state.opened = dict(old.opened)
    state.upcoming = old.upcoming
    state.most = old.most
    return state
