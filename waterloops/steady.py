"""The flows of a network and their pressures; what any flows take."""

from waterloops.ratios import Row, lowest, plus, row_of, row_over_product, shortened, squares, sum_of_products
from waterloops.ratios import times, turned
from waterloops.solving import solved


def lets_through(edge):
    """What flows through the edge for each unit by which pressure and head press."""
    return times(edge.conductance, edge.opening)


def is_shut(edge):
    return edge.opening[0] == 0


def least_of_groups(network):
    """For each junction the least number of its group."""
    least = list(range(len(network.names)))
    links = [edge for edge in network.edges if not is_shut(edge)]
    # A least number comes one edge further each time, so as many times as there are junctions are enough.
    for start in range(len(network.names)):
        for edge in links:
            lower = min(least[edge.first], least[edge.second])
            least[edge.first] = lower
            least[edge.second] = lower
    return least


def balances(network, through, heads):
    """For each junction: what pressures drive out of it, by whole numbers, is what heads drive into it."""
    size = len(network.names)
    rows = [[0] * (size + 1) for junction in range(size)]
    for number, edge in enumerate(network.edges):
        weight = through.tops[number]
        push = weight * heads.tops[number]
        rows[edge.first][edge.first] += weight
        rows[edge.first][edge.second] -= weight
        rows[edge.first][size] -= push
        rows[edge.second][edge.second] += weight
        rows[edge.second][edge.first] -= weight
        rows[edge.second][size] += push
    return rows


def chosen_from(row, places):
    return [row[place] for place in places] + [row[-1]]


def pressures_not_shortened(network, heads):
    """The pressures if the edges' heads were these, less their number below.

    The least junction of each group is held at 0: its balance follows from those of the rest. What is left has
    determinants above 0, in which no edge stands twice: so the product of the numbers below makes them whole.
    """
    through = row_over_product([lets_through(edge) for edge in network.edges])
    rows = balances(network, through, heads)
    free = [junction for junction, least in enumerate(least_of_groups(network)) if junction != least]
    found = solved([chosen_from(rows[junction], free) for junction in free], through.below)
    tops = [0] * len(network.names)
    for junction, top in zip(free, found.tops):
        tops[junction] = top
    return Row(tops, found.below)


def pressures_by(network, heads):
    """The pressures if the edges' heads were these."""
    pressures = pressures_not_shortened(network, heads)
    return shortened(pressures.tops, pressures.below * heads.below)


def flows_by(network, heads):
    """The flows if the edges' heads were these."""
    pressures = pressures_not_shortened(network, heads)
    tops = []
    for head, edge in zip(heads.tops, network.edges):
        through = lets_through(edge)
        press = pressures.tops[edge.first] - pressures.tops[edge.second] + head * pressures.below
        # Without rest: flows, too, come over the same determinant (Cramer) if each edge's equation is made whole.
        tops.append(through[0] * press // through[1])
    return shortened(tops, pressures.below * heads.below)


def heads_of(network):
    return row_of([edge.head for edge in network.edges])


def pressures_now(network):
    return pressures_by(network, heads_of(network))


def flows_now(network):
    return flows_by(network, heads_of(network))


def flows_of_one_head(network, chosen):
    """The flows if the head of the chosen edge were 1 and there were no other.

    Flows are linear in the heads, so by this much they are more for each 1 of that head.
    """
    tops = [0] * len(network.edges)
    tops[chosen] = 1
    return flows_by(network, Row(tops, 1))


def circulate(network, flows):
    """Whether the flows are as many as the edges, and into each junction just as much flows as out of it."""
    if len(flows.tops) != len(network.edges):
        return False
    gained = [0] * len(network.names)
    for top, edge in zip(flows.tops, network.edges):
        gained[edge.first] -= top
        gained[edge.second] += top
    return all([top == 0 for top in gained])


def is_pressed(edge, flow, fall):
    """Whether the flow is what the fall of pressure and the head press through the edge; all are fractions."""
    pressed = times(lets_through(edge), plus(fall, edge.head))
    return lowest(flow[0], flow[1]) == pressed


def belong_together(network, flows, pressures):
    if len(pressures.tops) != len(network.names) or not circulate(network, flows):
        return False
    for top, edge in zip(flows.tops, network.edges):
        fall = pressures.tops[edge.first] - pressures.tops[edge.second]
        if not is_pressed(edge, (top, flows.below), (fall, pressures.below)):
            return False
    return True


def work_of(network, flows):
    return sum_of_products(heads_of(network), flows)


def friction_of(network, flows):
    """The friction of the flows, or None if something flows through an edge that is shut."""
    resistances = []
    for top, edge in zip(flows.tops, network.edges):
        if not is_shut(edge):
            resistances.append(turned(lets_through(edge)))
        elif top == 0:
            resistances.append((0, 1))
        else:
            return None
    return sum_of_products(squares(flows), row_of(resistances))


def energy_of(network, flows):
    """The energy of the flows, or None if they have no friction."""
    friction = friction_of(network, flows)
    if friction is None:
        return None
    return plus(friction, times((-2, 1), work_of(network, flows)))
