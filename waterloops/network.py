"""The interface: calls on one network, one behind another in one list, and their answers in another."""

from waterloops.calls import answer_call
from waterloops.parts import Network

HOW_MANY_NUMBERS = {3: 3, 4: 3, 10: 2, 13: 4, 14: 2, 15: 1, 19: 1, 20: 3}
HOW_MANY_ROWS = {0: 1, 1: 1, 8: 2, 9: 1, 11: 1, 12: 1}


def rows_from(calls, place, how_many):
    """So many rows, each with its count before it, from the place on."""
    rows = []
    for number in range(how_many):
        start = place + 1
        place = start + calls[place]
        rows.append(calls[start:place])
    return rows


def answers(calls):
    """For each call how many numbers are answered, and these."""
    network = Network()
    answered = []
    place = 0
    while place < len(calls):
        call = calls[place]
        start = place + 1
        place = start + HOW_MANY_NUMBERS.get(call, 0)
        numbers = calls[start:place]
        rows = rows_from(calls, place, HOW_MANY_ROWS.get(call, 0))
        place += sum([1 + len(row) for row in rows])
        answer = answer_call(network, call, numbers, rows)
        answered.append(len(answer))
        answered.extend(answer)
    return answered
