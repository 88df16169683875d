"""What each call does to a network, and what it answers.

Each call has the network, its whole numbers and its rows. A call that is refused changes nothing before.
"""

from waterloops.parts import Network, PUMP, VALVE
from waterloops.ratios import lowest, row_from, told
from waterloops.steady import belong_together, circulate, energy_of, flows_now, flows_of_one_head
from waterloops.steady import friction_of, pressures_now, work_of
from waterloops.texts import network_of, one_text, take_text

OUT_OF_RANGE = -1
NO_NETWORK = -2
WRONG_KIND = -3
NO_CIRCULATION = -4
IMPOSSIBLE = -6
MOST_TOLD = 1000000


def is_edge(network, number):
    return 0 <= number < len(network.edges)


def is_ratio(top, below):
    return 0 <= top <= MOST_TOLD and 1 <= below <= MOST_TOLD


def is_part(top, below):
    return is_ratio(top, below) and top <= below


def answer_net(network, numbers, rows):
    found = network_of(rows[0])
    if found is None:
        return [NO_NETWORK]
    network.names = found.names
    network.edges = found.edges
    return [0, len(network.names), len(network.edges)]


def answer_read(network, numbers, rows):
    found = Network()
    wrong = take_text(found, rows[0])
    if wrong != 0:
        return [0, 0, wrong]
    return [0, 1, len(found.names), len(found.edges)]


def answer_print(network, numbers, rows):
    return [0] + one_text(network)


def answer_opens(network, numbers, rows):
    if not is_edge(network, numbers[0]) or not is_part(numbers[1], numbers[2]):
        return [OUT_OF_RANGE]
    edge = network.edges[numbers[0]]
    if edge.kind != VALVE:
        return [WRONG_KIND]
    edge.opening = lowest(numbers[1], numbers[2])
    return [0]


def answer_head(network, numbers, rows):
    if not is_edge(network, numbers[0]) or not is_ratio(numbers[1], numbers[2]):
        return [OUT_OF_RANGE]
    edge = network.edges[numbers[0]]
    if edge.kind != PUMP:
        return [WRONG_KIND]
    edge.head = lowest(numbers[1], numbers[2])
    return [0]


def answer_flows(network, numbers, rows):
    return [0] + told(flows_now(network))


def answer_pressures(network, numbers, rows):
    return [0] + told(pressures_now(network))


def answer_work(network, numbers, rows):
    flows = flows_now(network)
    return [0] + list(work_of(network, flows)) + list(friction_of(network, flows))


def answer_check(network, numbers, rows):
    flows = row_from(rows[0])
    pressures = row_from(rows[1])
    if flows is None or pressures is None:
        return [OUT_OF_RANGE]
    return [0, 1 if belong_together(network, flows, pressures) else 0]


def answer_energy(network, numbers, rows):
    flows = row_from(rows[0])
    if flows is None:
        return [OUT_OF_RANGE]
    if not circulate(network, flows):
        return [NO_CIRCULATION]
    energy = energy_of(network, flows)
    if energy is None:
        return [IMPOSSIBLE]
    return [0] + list(energy) + list(energy_of(network, flows_now(network)))


def answer_across(network, numbers, rows):
    if not is_edge(network, numbers[0]) or not is_edge(network, numbers[1]):
        return [OUT_OF_RANGE]
    flows = flows_of_one_head(network, numbers[0])
    return [0] + list(lowest(flows.tops[numbers[1]], flows.below))


ANSWERERS = {
    0: answer_net,
    1: answer_read,
    2: answer_print,
    3: answer_opens,
    4: answer_head,
    5: answer_flows,
    6: answer_pressures,
    7: answer_work,
    8: answer_check,
    9: answer_energy,
    10: answer_across,
}


def answer_call(network, call, numbers, rows):
    answerer = ANSWERERS[call]
    return answerer(network, numbers, rows)
