"""What a network is made of."""

# The kinds that some calls ask for; 0 is a pipe.
VALVE = 1
PUMP = 2


class Edge:
    """An edge from a first to a second junction; conductance, head and opening are fractions in lowest terms."""

    def __init__(self, kind, first, second, conductance, head):
        self.kind = kind
        self.first = first
        self.second = second
        self.conductance = conductance
        self.head = head
        self.opening = (1, 1)


class Network:
    """Names are the junctions' names, as lists of bytes, in the order of the junctions' numbers."""

    def __init__(self):
        self.names = []
        self.edges = []
