"""How a network's text is read, and the one text of a network. Texts are lists of bytes."""

from waterloops.parts import Edge, Network, PUMP
from waterloops.ratios import lowest

KIND_WORDS = ("pipe", "valve", "pump")
LINE_END = 10
BLANK = 32
SLASH = 47
MOST_JUNCTIONS = 8
MOST_EDGES = 14
MOST_LETTERS = 8
MOST_NUMBER = 1000000


def in_bytes(word):
    return [ord(sign) for sign in word]


def pieces_between(text, mark):
    """What stands before, between and behind the marks: always one piece more than there are marks."""
    pieces = []
    piece = []
    for byte in text:
        if byte == mark:
            pieces.append(piece)
            piece = []
        else:
            piece.append(byte)
    pieces.append(piece)
    return pieces


def words_of(line):
    return [piece for piece in pieces_between(line, BLANK) if len(piece) > 0]


def kind_of(word):
    """The kind that a word tells, or None."""
    for kind, name in enumerate(KIND_WORDS):
        if word == in_bytes(name):
            return kind
    return None


def is_name(word):
    return len(word) <= MOST_LETTERS and all([ord("a") <= byte <= ord("z") for byte in word])


def number_of(digits):
    """The number from 0 to the greatest that digits tell, or None."""
    if len(digits) == 0 or (digits[0] == ord("0") and len(digits) > 1):
        return None
    number = 0
    for byte in digits:
        if byte < ord("0") or byte > ord("9"):
            return None
        number = number * 10 + byte - ord("0")
    if number > MOST_NUMBER:
        return None
    return number


def ratio_of(word):
    """The fraction, in lowest terms, that a word tells as N or N/D, or None."""
    numbers = [number_of(piece) for piece in pieces_between(word, SLASH)]
    if None in numbers or len(numbers) > 2:
        return None
    if len(numbers) == 1:
        return (numbers[0], 1)
    if numbers[1] == 0:
        return None
    return lowest(numbers[0], numbers[1])


def junction_of(network, name):
    """The junction's number; a name that is met first gets the next one."""
    if name not in network.names:
        network.names.append(name)
    return network.names.index(name)


def ratios_of(words, kind):
    """The conductance and the head that a line's words tell, or None."""
    if len(words) != (5 if kind == PUMP else 4):
        return None
    ratios = [ratio_of(word) for word in words[3:]]
    if None in ratios or ratios[0][0] == 0:
        return None
    if kind != PUMP:
        ratios.append((0, 1))
    return ratios


def take_line(network, line):
    """Whether the line is right; if it is, its edge is put to the network, which is of no use behind a wrong one."""
    words = words_of(line)
    if len(words) == 0:
        return False
    kind = kind_of(words[0])
    ratios = ratios_of(words, kind)
    if kind is None or ratios is None or len(network.edges) == MOST_EDGES:
        return False
    if not is_name(words[1]) or not is_name(words[2]) or words[1] == words[2]:
        return False
    first = junction_of(network, words[1])
    second = junction_of(network, words[2])
    network.edges.append(Edge(kind, first, second, ratios[0], ratios[1]))
    return len(network.names) <= MOST_JUNCTIONS


def take_text(network, text):
    """The number of the first line that's wrong, or 0 if there's none and the network is now the text's."""
    lines = pieces_between(text, LINE_END)
    # A last line that no byte 10 ends is the first wrong one even where its words are right.
    unended = lines.pop()
    for number, line in enumerate(lines, start=1):
        if not take_line(network, line):
            return number
    if len(unended) > 0 or len(lines) == 0:
        return len(lines) + 1
    return 0


def network_of(text):
    """The network that a text tells, or None."""
    network = Network()
    if take_text(network, text) != 0:
        return None
    return network


def ratio_bytes(ratio):
    if ratio[1] == 1:
        return in_bytes(str(ratio[0]))
    return in_bytes(str(ratio[0])) + [SLASH] + in_bytes(str(ratio[1]))


def line_of(network, edge):
    line = in_bytes(KIND_WORDS[edge.kind])
    words = [network.names[edge.first], network.names[edge.second], ratio_bytes(edge.conductance)]
    if edge.kind == PUMP:
        words.append(ratio_bytes(edge.head))
    for word in words:
        line.append(BLANK)
        line.extend(word)
    line.append(LINE_END)
    return line


def one_text(network):
    text = []
    for edge in network.edges:
        text.extend(line_of(network, edge))
    return text
