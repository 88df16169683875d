"""How warm the water is everywhere, and what each room gets."""

from waterloops.ratios import Row, row_over_product
from waterloops.solving import solved


class Stream:
    """What flows through the edge of this number, from its start to its end.

    The amount, above 0, and the loss are whole numbers, over the one number below of the flows and of the losses.
    """

    def __init__(self, number, start, end, amount, loss, room):
        self.number = number
        self.start = start
        self.end = end
        self.amount = amount
        self.loss = loss
        self.room = room


def losses_of(network):
    return row_over_product([edge.loss for edge in network.edges])


def streams_of(network, flows, losses):
    """The streams, in the order of the edges; where nothing flows there's none."""
    streams = []
    for number, edge in enumerate(network.edges):
        amount = flows.tops[number]
        loss = losses.tops[number]
        if amount > 0:
            streams.append(Stream(number, edge.first, edge.second, amount, loss, edge.room))
        if amount < 0:
            streams.append(Stream(number, edge.second, edge.first, -amount, loss, edge.room))
    return streams


def mixings(network, streams, whole):
    """For each junction an equation of the warmths, times the whole, which is the losses' number below."""
    size = len(network.names)
    rows = [[0] * (size + 1) for junction in range(size)]
    for stream in streams:
        row = rows[stream.end]
        row[stream.end] += stream.amount * whole
        row[stream.start] -= stream.amount * (whole - stream.loss)
        row[size] += stream.amount * stream.loss * stream.room
    for junction in range(size):
        if junction in network.boilers or rows[junction][junction] == 0:
            rows[junction] = [0] * (size + 1)
            rows[junction][junction] = whole
            rows[junction][size] = whole * network.boilers.get(junction, 0)
    return rows


def warmths_of(network, flows):
    """How warm the water is at each junction, or None where it isn't settled.

    In the equations no number beside the diagonal is above 0, and no row's sum is below: so determinants are as
    solving asks. Each loss stands in one row alone, so the product of their numbers below makes them whole.
    """
    losses = losses_of(network)
    streams = streams_of(network, flows, losses)
    return solved(mixings(network, streams, losses.below), losses.below)


def heats_of(network, flows, warmths):
    """For each edge what it gives to its room, then for each junction what its boiler brings."""
    losses = losses_of(network)
    given = [0] * len(network.edges)
    brought = [0] * len(network.names)
    for stream in streams_of(network, flows, losses):
        warmth = warmths.tops[stream.start]
        given[stream.number] = stream.amount * stream.loss * (warmth - stream.room * warmths.below)
        if stream.end in network.boilers:
            warmer = warmths.tops[stream.end] - warmth
            brought[stream.end] += stream.amount * losses.below * warmer + given[stream.number]
    return Row(given + brought, flows.below * warmths.below * losses.below)
