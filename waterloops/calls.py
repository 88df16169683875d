"""What each call does to a network, and what it answers.

Each call has the network, its whole numbers and its rows. A call that is refused changes nothing before.
"""

from waterloops.parts import Network, PUMP, VALVE, only_pump, with_opening
from waterloops.ratios import lowest, row_from, told
from waterloops.steady import belong_together, circulate, energy_of, flows_now, flows_of_one_head
from waterloops.steady import friction_of, least_of_groups, pressures_now, work_of
from waterloops.texts import network_of, one_text, take_text
from waterloops.throttling import least_setting
from waterloops.warming import heats_of, warmths_of

OUT_OF_RANGE = -1
NO_NETWORK = -2
WRONG_KIND = -3
NO_CIRCULATION = -4
NO_BOILER = -4
IMPOSSIBLE = -6
MOST_TOLD = 1000000


def is_edge(network, number):
    return 0 <= number < len(network.edges)


def is_junction(network, number):
    return 0 <= number < len(network.names)


def is_warmth(number):
    return -MOST_TOLD <= number <= MOST_TOLD


def is_ratio(top, below):
    return 0 <= top <= MOST_TOLD and 1 <= below <= MOST_TOLD


def is_part(top, below):
    return is_ratio(top, below) and top <= below


def answer_net(network, numbers, rows):
    found = network_of(rows[0])
    if found is None:
        return [NO_NETWORK]
    network.names = found.names
    network.edges = found.edges
    network.boilers = found.boilers
    return [0, len(network.names), len(network.edges)]


def answer_read(network, numbers, rows):
    found = Network()
    wrong = take_text(found, rows[0])
    if wrong != 0:
        return [0, 0, wrong]
    return [0, 1, len(found.names), len(found.edges)]


def answer_print(network, numbers, rows):
    return [0] + one_text(network)


def answer_opens(network, numbers, rows):
    if not is_edge(network, numbers[0]) or not is_part(numbers[1], numbers[2]):
        return [OUT_OF_RANGE]
    edge = network.edges[numbers[0]]
    if edge.kind != VALVE:
        return [WRONG_KIND]
    edge.opening = lowest(numbers[1], numbers[2])
    return [0]


def answer_head(network, numbers, rows):
    if not is_edge(network, numbers[0]) or not is_ratio(numbers[1], numbers[2]):
        return [OUT_OF_RANGE]
    edge = network.edges[numbers[0]]
    if edge.kind != PUMP:
        return [WRONG_KIND]
    edge.head = lowest(numbers[1], numbers[2])
    return [0]


def answer_flows(network, numbers, rows):
    return [0] + told(flows_now(network))


def answer_pressures(network, numbers, rows):
    return [0] + told(pressures_now(network))


def answer_work(network, numbers, rows):
    flows = flows_now(network)
    return [0] + list(work_of(network, flows)) + list(friction_of(network, flows))


def answer_check(network, numbers, rows):
    flows = row_from(rows[0])
    pressures = row_from(rows[1])
    if flows is None or pressures is None:
        return [OUT_OF_RANGE]
    return [0, 1 if belong_together(network, flows, pressures) else 0]


def answer_energy(network, numbers, rows):
    flows = row_from(rows[0])
    if flows is None:
        return [OUT_OF_RANGE]
    if not circulate(network, flows):
        return [NO_CIRCULATION]
    energy = energy_of(network, flows)
    if energy is None:
        return [IMPOSSIBLE]
    return [0] + list(energy) + list(energy_of(network, flows_now(network)))


def answer_across(network, numbers, rows):
    if not is_edge(network, numbers[0]) or not is_edge(network, numbers[1]):
        return [OUT_OF_RANGE]
    flows = flows_of_one_head(network, numbers[0])
    return [0] + list(lowest(flows.tops[numbers[1]], flows.below))


def answer_least(network, numbers, rows):
    flows = row_from(rows[0])
    if flows is None:
        return [OUT_OF_RANGE]
    if only_pump(network) is None:
        return [WRONG_KIND]
    if not circulate(network, flows):
        return [NO_CIRCULATION]
    setting = least_setting(network, flows)
    if setting is None:
        return [IMPOSSIBLE]
    answer = [0] + list(setting.head)
    for opening in setting.openings:
        answer.extend(opening)
    return answer


def answer_throttle(network, numbers, rows):
    answer = answer_least(network, numbers, rows)
    if answer[0] != 0:
        return answer
    setting = least_setting(network, row_from(rows[0]))
    for edge, opening in zip(network.edges, setting.openings):
        edge.opening = opening
    network.edges[only_pump(network)].head = setting.head
    return [0] + list(setting.head)


def answer_loss(network, numbers, rows):
    if not is_edge(network, numbers[0]) or not is_part(numbers[1], numbers[2]) or not is_warmth(numbers[3]):
        return [OUT_OF_RANGE]
    edge = network.edges[numbers[0]]
    edge.loss = lowest(numbers[1], numbers[2])
    edge.room = numbers[3]
    return [0]


def answer_boiler(network, numbers, rows):
    if not is_junction(network, numbers[0]) or not is_warmth(numbers[1]):
        return [OUT_OF_RANGE]
    network.boilers[numbers[0]] = numbers[1]
    return [0]


def answer_unboil(network, numbers, rows):
    if not is_junction(network, numbers[0]):
        return [OUT_OF_RANGE]
    if numbers[0] not in network.boilers:
        return [NO_BOILER]
    network.boilers.pop(numbers[0])
    return [0]


def answer_warmth(network, numbers, rows):
    warmths = warmths_of(network, flows_now(network))
    if warmths is None:
        return [IMPOSSIBLE]
    return [0] + told(warmths)


def answer_heat(network, numbers, rows):
    flows = flows_now(network)
    warmths = warmths_of(network, flows)
    if warmths is None:
        return [IMPOSSIBLE]
    return [0] + told(heats_of(network, flows, warmths))


def answer_groups(network, numbers, rows):
    return [0] + least_of_groups(network)


def answer_edge(network, numbers, rows):
    if not is_edge(network, numbers[0]):
        return [OUT_OF_RANGE]
    edge = network.edges[numbers[0]]
    answer = [0, edge.kind, edge.first, edge.second]
    for ratio in (edge.conductance, edge.head, edge.opening, edge.loss, (edge.room, 1)):
        answer.extend(ratio)
    return answer


def answer_more(network, numbers, rows):
    if not is_edge(network, numbers[0]) or not is_part(numbers[1], numbers[2]):
        return [OUT_OF_RANGE]
    pump = only_pump(network)
    if network.edges[numbers[0]].kind != VALVE or pump is None:
        return [WRONG_KIND]
    now = flows_now(network)
    then = flows_now(with_opening(network, numbers[0], lowest(numbers[1], numbers[2])))
    return [0] + list(lowest(now.tops[pump], now.below)) + list(lowest(then.tops[pump], then.below))


ANSWERERS = {
    0: answer_net,
    1: answer_read,
    2: answer_print,
    3: answer_opens,
    4: answer_head,
    5: answer_flows,
    6: answer_pressures,
    7: answer_work,
    8: answer_check,
    9: answer_energy,
    10: answer_across,
    11: answer_least,
    12: answer_throttle,
    13: answer_loss,
    14: answer_boiler,
    15: answer_unboil,
    16: answer_warmth,
    17: answer_heat,
    18: answer_groups,
    19: answer_edge,
    20: answer_more,
}


def answer_call(network, call, numbers, rows):
    answerer = ANSWERERS[call]
    return answerer(network, numbers, rows)
