"""What a network is made of."""

PIPE = 0
VALVE = 1
PUMP = 2


class Edge:
    """An edge from a first to a second junction.

    Conductance, head, opening and loss are fractions in lowest terms, the room is a whole number.
    """

    def __init__(self, kind, first, second, conductance, head):
        self.kind = kind
        self.first = first
        self.second = second
        self.conductance = conductance
        self.head = head
        self.opening = (1, 1)
        self.loss = (0, 1)
        self.room = 0


class Network:
    """Names are the junctions' names, as lists of bytes, in the order of the junctions' numbers.

    Boilers are the warmths by the junctions that have one.
    """

    def __init__(self):
        self.names = []
        self.edges = []
        self.boilers = {}


def only_pump(network):
    """The number of the only pump, or None if there isn't just one."""
    pumps = [number for number, edge in enumerate(network.edges) if edge.kind == PUMP]
    return pumps[0] if len(pumps) == 1 else None


def with_opening(network, chosen, opening):
    """Another network: its flows are those that this one would have if the chosen edge's opening were so."""
    edge = network.edges[chosen]
    changed = Edge(edge.kind, edge.first, edge.second, edge.conductance, edge.head)
    changed.opening = opening
    other = Network()
    other.names = network.names
    other.edges = network.edges[:chosen] + [changed] + network.edges[chosen + 1:]
    return other
