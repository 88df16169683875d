"""What the tests share: calls by name, answers taken apart, and a second way to the same numbers.

The second way goes by loops: flows that circulate are sums of loops, and along each loop what heads give is
what resistance takes. The program goes by junctions and pressures, so the two have little in common. Falls of
pressure are found by trying all ways that pass no junction twice; warmths aren't found, but it's seen from what
hangs together whether they are settled, and checked whether told ones keep the rules.
"""

import random
import re
from fractions import Fraction

from waterloops.network import answers

LINE = re.compile(
    r" *(?:(pipe|valve) +([a-z]{1,8}) +([a-z]{1,8}) +(\S+)|(pump) +([a-z]{1,8}) +([a-z]{1,8}) +(\S+) +(\S+)) *")
RATIO = re.compile(r"(0|[1-9][0-9]*)(?:/([1-9][0-9]*))?")


def row(numbers):
    return [len(numbers)] + list(numbers)


def text(words):
    return row(words.encode("latin-1"))


def ratios(fractions):
    numbers = []
    for fraction in fractions:
        numbers += [Fraction(fraction).numerator, Fraction(fraction).denominator]
    return numbers


def net(words):
    return [0] + text(words)


def read(words):
    return [1] + text(words)


PRINT = [2]
FLOWS = [5]
PRESSURES = [6]
WORK = [7]
WARMTH = [16]
HEAT = [17]
GROUPS = [18]


def opens(edge, n, d):
    return [3, edge, n, d]


def head(edge, n, d):
    return [4, edge, n, d]


def check(flows, pressures):
    return [8] + row(flows) + row(pressures)


def energy(flows):
    return [9] + row(flows)


def across(i, j):
    return [10, i, j]


def least(flows):
    return [11] + row(flows)


def throttle(flows):
    return [12] + row(flows)


def loss(number, n, d, room):
    return [13, number, n, d, room]


def boiler(junction, warmth):
    return [14, junction, warmth]


def unboil(junction):
    return [15, junction]


def edge(number):
    return [19, number]


def more(number, n, d):
    return [20, number, n, d]


def everything(words):
    """Calls whose answers tell all that a network of this text is."""
    model = Model(words)
    edges = [edge(number) for number in range(len(model.edges))]
    return [PRINT, FLOWS, PRESSURES, WARMTH, HEAT, GROUPS] + edges


def each(*calls):
    """The answers of the calls on one network, a list for each."""
    answered = answers([number for call in calls for number in call])
    found = []
    place = 0
    while place < len(answered):
        size = answered[place]
        found.append(answered[place + 1:place + 1 + size])
        place += 1 + size
    if len(found) != len(calls) or place != len(answered):
        raise AssertionError(f"{len(calls)} calls, answered by {answered}")
    return found


def last(*calls):
    return each(*calls)[-1]


def fractions_of(answer):
    """The fractions behind an answer's 0; they must be in lowest terms."""
    if answer[0] != 0 or len(answer) % 2 != 1:
        raise AssertionError(f"no fractions: {answer}")
    found = []
    for place in range(1, len(answer), 2):
        fraction = Fraction(answer[place], answer[place + 1])
        if [fraction.numerator, fraction.denominator] != answer[place:place + 2]:
            raise AssertionError(f"not in lowest terms: {answer[place:place + 2]}")
        found.append(fraction)
    return found


class Model:
    """A network by itself: edges are dicts, and junctions their names' places."""

    def __init__(self, words=""):
        self.names = []
        self.edges = []
        self.boilers = {}
        self.wrong = 0
        lines = words.split("\n")
        for number, line in enumerate(lines[:-1], start=1):
            if not self.takes(line):
                self.wrong = number
                return
        if lines[-1] or not self.edges:
            self.wrong = len(lines)

    def takes(self, line):
        found = LINE.fullmatch(line)
        if found is None:
            return False
        parts = [part for part in found.groups() if part is not None]
        if parts[1] == parts[2] or any(ratio(part) is None for part in parts[3:]) or ratio(parts[3]) == 0:
            return False
        for name in parts[1:3]:
            if name not in self.names:
                self.names.append(name)
        self.edges.append({
            "kind": parts[0], "ends": (self.names.index(parts[1]), self.names.index(parts[2])),
            "conductance": ratio(parts[3]), "head": ratio(parts[4]) if len(parts) == 5 else Fraction(0),
            "opening": Fraction(1), "loss": Fraction(0), "room": 0})
        return len(self.names) <= 8 and len(self.edges) <= 14

    def tree(self):
        """Pressure's ways: for each junction its group's least and the edges from there, each with a sign."""
        ways = {}
        tree = []
        for root in range(len(self.names)):
            if root in ways:
                continue
            ways[root] = (root, [])
            reached = [root]
            for junction in reached:
                for number, edge in enumerate(self.edges):
                    if edge["opening"] == 0 or junction not in edge["ends"]:
                        continue
                    sign = 1 if edge["ends"][0] == junction else -1
                    other = edge["ends"][1] if sign == 1 else edge["ends"][0]
                    if other not in ways:
                        ways[other] = (root, ways[junction][1] + [(number, sign)])
                        reached.append(other)
                        tree.append(number)
        return ways, tree

    def loops(self):
        """A loop for each open edge beside the tree: a sign or 0 for each edge."""
        ways, tree = self.tree()
        found = []
        for number, edge in enumerate(self.edges):
            if edge["opening"] == 0 or number in tree:
                continue
            loop = [0] * len(self.edges)
            loop[number] = 1
            for step, sign in ways[edge["ends"][0]][1]:
                loop[step] += sign
            for step, sign in ways[edge["ends"][1]][1]:
                loop[step] -= sign
            found.append(loop)
        return found

    def heads(self):
        return [edge["head"] for edge in self.edges]

    def flows(self, heads=None):
        heads = self.heads() if heads is None else heads
        loops = self.loops()
        takes = [0 if edge["opening"] == 0 else 1 / (edge["conductance"] * edge["opening"]) for edge in self.edges]
        equations = []
        for loop in loops:
            line = [sum((a * b * t for a, b, t in zip(loop, other, takes)), Fraction(0)) for other in loops]
            equations.append(line + [sum((a * h for a, h in zip(loop, heads)), Fraction(0))])
        turns = solution(equations)
        return [sum((turn * loop[k] for turn, loop in zip(turns, loops)), Fraction(0))
                for k in range(len(self.edges))]

    def pressures(self):
        flows = self.flows()
        ways = self.tree()[0]
        found = []
        for junction in range(len(self.names)):
            pressure = Fraction(0)
            for number, sign in ways[junction][1]:
                edge = self.edges[number]
                pressure += sign * (edge["head"] - flows[number] / (edge["conductance"] * edge["opening"]))
            found.append(pressure)
        return found

    def work(self, flows):
        return sum((edge["head"] * flow for edge, flow in zip(self.edges, flows)), Fraction(0))

    def friction(self, flows):
        return sum((flow * flow / (edge["conductance"] * edge["opening"])
                    for edge, flow in zip(self.edges, flows) if flow != 0), Fraction(0))

    def energy(self, flows):
        return self.friction(flows) - 2 * self.work(flows)

    def across(self, i, j):
        heads = self.heads()
        heads[i] += 1
        return self.flows(heads)[j] - self.flows()[j]

    def pump(self):
        """The only pump's number, or None."""
        pumps = [number for number, edge in enumerate(self.edges) if edge["kind"] == "pump"]
        return pumps[0] if len(pumps) == 1 else None

    def steps(self, flows):
        """From where to where pressure must fall, and by how much, as far as pipes and valves ask for it."""
        found = []
        for edge, flow in zip(self.edges, flows):
            first, second = edge["ends"]
            drop = flow / edge["conductance"]
            if edge["kind"] == "pipe":
                found += [(first, second, drop), (second, first, -drop)]
            if edge["kind"] == "valve" and flow != 0:
                found.append((first, second, drop) if flow > 0 else (second, first, -drop))
        return found

    def setting(self, flows):
        """The least head and the openings by which flows that circulate are had, or None."""
        steps = self.steps(flows)
        pump = self.edges[self.pump()]
        if flows[self.pump()] <= 0 or any(goes_round_up(steps, root) for root in range(len(self.names))):
            return None
        falls = longest_ways(steps, pump["ends"][1])
        openings = []
        for edge, flow in zip(self.edges, flows):
            fall = falls.get(edge["ends"][1], 0) - falls.get(edge["ends"][0], 0)
            if edge["kind"] == "valve":
                openings.append(flow / (edge["conductance"] * fall) if flow else Fraction(0))
            else:
                openings.append(Fraction(1))
        return flows[self.pump()] / pump["conductance"] + falls.get(pump["ends"][0], 0), openings

    def streams(self, flows):
        """Each edge through which something flows: the edge, from where, to where, how much."""
        found = []
        for edge, flow in zip(self.edges, flows):
            if flow != 0:
                start, end = edge["ends"] if flow > 0 else edge["ends"][::-1]
                found.append((edge, start, end, abs(flow)))
        return found

    def warmth_is_settled(self):
        """Whether all water that goes round comes by a boiler or by an edge with a loss."""
        streams = self.streams(self.flows())
        for root in range(len(self.names)):
            met = {root}
            for times in self.names:
                met |= {end for edge, start, end, amount in streams if start in met}
            own = [edge for edge, start, end, amount in streams if start in met]
            if own and not met & set(self.boilers) and all(edge["loss"] == 0 for edge in own):
                return False
        return True

    def arriving(self, warmths):
        """For each junction how much flows into it by each edge, and how warm."""
        found = [[] for name in self.names]
        for edge, start, end, amount in self.streams(self.flows()):
            found[end].append((amount, warmths[start] - edge["loss"] * (warmths[start] - edge["room"])))
        return found

    def keeps_warmth(self, warmths):
        for junction, inflow in enumerate(self.arriving(warmths)):
            warmth = warmths[junction]
            if junction in self.boilers:
                kept = warmth == self.boilers[junction]
            elif inflow:
                kept = warmth == sum(a * w for a, w in inflow) / sum(a for a, w in inflow)
            else:
                kept = warmth == 0
            if not kept:
                return False
        return len(warmths) == len(self.names)

    def heat(self, warmths):
        flows = self.flows()
        given = []
        for edge, flow in zip(self.edges, flows):
            start = edge["ends"][0] if flow > 0 else edge["ends"][1]
            given.append(abs(flow) * edge["loss"] * (warmths[start] - edge["room"]))
        brought = []
        for junction, inflow in enumerate(self.arriving(warmths)):
            warmer = [a * (warmths[junction] - w) for a, w in inflow] if junction in self.boilers else []
            brought.append(sum(warmer, Fraction(0)))
        return given, brought


def ways_from(steps, start):
    """All ways from the start that pass no junction twice, but may end where they began: the end, the sum."""
    found = []
    begun = [(start, Fraction(0), (start,))]
    while begun:
        place, total, passed = begun.pop()
        for upper, lower, drop in steps:
            if upper == place and lower == start:
                found.append((start, total + drop))
            elif upper == place and lower not in passed:
                found.append((lower, total + drop))
                begun.append((lower, total + drop, passed + (lower,)))
    return found


def goes_round_up(steps, root):
    """Whether a way round from the root asks that pressure be lower there than it is."""
    return any(end == root and total > 0 for end, total in ways_from(steps, root))


def longest_ways(steps, start):
    longest = {start: Fraction(0)}
    for end, total in ways_from(steps, start):
        longest[end] = max(longest.get(end, total), total)
    return longest


def ratio(word):
    found = RATIO.fullmatch(word)
    if found is None:
        return None
    top = int(found.group(1))
    below = int(found.group(2) or 1)
    return Fraction(top, below) if top <= 1000000 and below <= 1000000 else None


def solution(equations):
    """Elimination with fractions; the equations have just one answer."""
    size = len(equations)
    for place in range(size):
        pivot = next(k for k in range(place, size) if equations[k][place] != 0)
        equations[place], equations[pivot] = equations[pivot], equations[place]
        scale = equations[place][place]
        equations[place] = [number / scale for number in equations[place]]
        for k in range(size):
            if k != place:
                factor = equations[k][place]
                equations[k] = [a - factor * b for a, b in zip(equations[k], equations[place])]
    return [line[size] for line in equations]


def some_ratio(source, least):
    greatest = source.choice((3, 10, 1000000))
    return f"{source.randint(least, greatest)}/{source.randint(1, greatest)}"


def some_network(source):
    """Calls that make a network, and its model: valves of all openings, heads set anew, perhaps several groups."""
    names = source.sample(["a", "b", "c", "dd", "abcdefgh", "pipe", "pump", "zzz"], source.randint(2, 8))
    lines = []
    for number in range(source.randint(1, 14)):
        kind = source.choice(("pipe", "valve", "valve", "pump"))
        ends = source.sample(names, 2)
        behind = " " + some_ratio(source, 0) if kind == "pump" else ""
        lines.append(f"{kind} {ends[0]} {ends[1]} {some_ratio(source, 1)}{behind}\n")
    words = "".join(lines)
    model = Model(words)
    calls = [net(words)]
    for number, edge in enumerate(model.edges):
        below = source.choice((1, 2, 5, 1000000))
        top = source.randint(0, below)
        if edge["kind"] == "valve" and source.random() < 0.8:
            calls.append(opens(number, top, below))
            edge["opening"] = Fraction(top, below)
        if edge["kind"] == "pump" and source.random() < 0.4:
            pressing = source.choice((0, 1, 6, 1000000))
            calls.append(head(number, pressing, below))
            edge["head"] = Fraction(pressing, below)
    return calls, model


def some_networks(how_many, seed):
    source = random.Random(seed)
    return [some_network(source) + (source,) for number in range(how_many)]


def some_driven_network(source):
    """Like some_network, but with one pump, which drives something, and with few ways, so that all can be tried.

    Its flows are numbers that can be handed in.
    """
    while True:
        names = source.sample("abcdefgh", source.randint(2, 6))
        lines = [f"pump {names[0]} {names[1]} {some_ratio(source, 1)} {some_ratio(source, 1)}\n"]
        for number in range(source.randint(1, 8)):
            kind = source.choice(("pipe", "valve", "valve", "valve"))
            ends = source.sample(names, 2)
            lines.append(f"{kind} {ends[0]} {ends[1]} {some_ratio(source, 1)}\n")
        source.shuffle(lines)
        words = "".join(lines)
        model = Model(words)
        calls = [net(words)]
        for number, edge in enumerate(model.edges):
            if edge["kind"] == "valve":
                below = source.choice((1, 2, 5, 1000000))
                top = source.randint(0, below)
                calls.append(opens(number, top, below))
                edge["opening"] = Fraction(top, below)
        flows = model.flows()
        if flows[model.pump()] > 0 and all(abs(number) <= 10**18 for number in ratios(flows)):
            return calls, model


def some_warmth(source, model):
    """Calls that make losses and boilers, which the model then has, too."""
    calls = []
    often = source.choice((0.1, 0.5, 1))
    for number, edge in enumerate(model.edges):
        if source.random() < often:
            below = source.choice((1, 1, 2, 5, 1000000))
            top = source.randint(0, below)
            room = source.choice((-1000000, -7, 0, 20, 21, 1000000))
            calls.append(loss(number, top, below, room))
            edge["loss"] = Fraction(top, below)
            edge["room"] = room
    often = source.choice((0, 0.3))
    for junction in range(len(model.names)):
        if source.random() < often:
            model.boilers[junction] = source.choice((-1000000, -3, 0, 60, 80, 1000000))
            calls.append(boiler(junction, model.boilers[junction]))
    return calls


def some_circulation(model, source):
    """Flows that circulate through open edges."""
    flows = [Fraction(0)] * len(model.edges)
    for loop in model.loops():
        turn = Fraction(source.randint(-9, 9), source.randint(1, 9))
        flows = [flow + turn * sign for flow, sign in zip(flows, loop)]
    return flows
