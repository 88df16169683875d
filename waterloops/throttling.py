"""How valves must be throttled so that just the told flows run, and the least head with which that can be."""

from waterloops.parts import PIPE, VALVE, only_pump
from waterloops.ratios import lowest, row_of, times, turned


class Setting:
    """The pump's head and, edge by edge, the openings."""

    def __init__(self, head, openings):
        self.head = head
        self.openings = openings


def drops_of(network, flows):
    """For each edge its flow divided by its conductance: the fall of pressure along it where it's all open."""
    drops = []
    for top, edge in zip(flows.tops, network.edges):
        drops.append(times((top, flows.below), turned(edge.conductance)))
    return row_of(drops)


def steps_down(network, drops):
    """From which junction to which pressure must fall, and by at least how much.

    By just so much is by at least so much one way, and by at least the contrary the other way.
    """
    steps = []
    for drop, edge in zip(drops.tops, network.edges):
        if edge.kind == PIPE or (edge.kind == VALVE and drop > 0):
            steps.append((edge.first, edge.second, drop))
        if edge.kind == PIPE or (edge.kind == VALVE and drop < 0):
            steps.append((edge.second, edge.first, -drop))
    return steps


def least_falls(how_many, start, steps):
    """The least falls from the start on that keep the steps, if any do."""
    falls = [None] * how_many
    falls[start] = 0
    # Falls come one step further each time; where they can be kept the longest ways pass no junction twice, so as
    # many times as there are junctions are enough.
    for length in range(how_many):
        for upper, lower, drop in steps:
            if falls[upper] is not None:
                least = falls[upper] + drop
                falls[lower] = least if falls[lower] is None else max(falls[lower], least)
    return [0 if fall is None else fall for fall in falls]


def are_kept(steps, falls):
    return all([falls[lower] - falls[upper] >= drop for upper, lower, drop in steps])


def opening_by(edge, drop, falls):
    if edge.kind != VALVE:
        return (1, 1)
    if drop == 0:
        return (0, 1)
    # Drop and fall have the same sign, below 0 where it flows from the second junction to the first.
    return lowest(abs(drop), abs(falls[edge.second] - falls[edge.first]))


def least_setting(network, flows):
    """The setting of the least head with which these flows are the flows, or None if they aren't had so.

    There must be just one pump, and the flows must circulate.
    """
    pump = only_pump(network)
    if flows.tops[pump] <= 0:
        return None
    edge = network.edges[pump]
    drops = drops_of(network, flows)
    steps = steps_down(network, drops)
    falls = least_falls(len(network.names), edge.second, steps)
    if not are_kept(steps, falls):
        return None
    openings = [opening_by(other, drop, falls) for drop, other in zip(drops.tops, network.edges)]
    return Setting(lowest(drops.tops[pump] + falls[edge.first], drops.below), openings)
