"""Reading the written form of programs."""

from chosenlast.errors import InvalidText
from chosenlast.kinds import is_name, is_rising

# How many programs stand inside a node that begins with this word.
INSIDE = {"stop": 0, "say": 1, "ask": 2}


def program_read(text, *, line=0):
    """Return the program that the text writes; raise InvalidText with this line for any other text."""
    return read_program_from(fields_and_end(text), 0, line)


def fields_and_end(text):
    """Return the fields of a line, and an empty one behind them.

    An empty field never stands; so the last one is found wrong where a field is missing.
    """
    return text.split(" ") + [""]


def read_program_from(fields, at, line):
    """Return the program that all fields from this position on write; the last field is the empty one behind them."""
    nodes = []
    missing = 1
    while missing > 0:
        node = read_node(fields, at, line)
        nodes.append(node)
        at += len(node)
        missing += INSIDE[node[0]] - 1
    if at < len(fields) - 1:
        raise InvalidText(line, at)
    return program_of(nodes)


def read_node(fields, at, line):
    """Return the list of what the fields of the node at this position write."""
    word = fields[at]
    if word not in INSIDE:
        raise InvalidText(line, at)
    if word == "stop":
        return [word]
    if not is_name(fields[at + 1]):
        raise InvalidText(line, at + 1)
    if word == "say":
        return [word, fields[at + 1]]
    chosen = read_chosen(fields[at + 2])
    if chosen is None:
        raise InvalidText(line, at + 2)
    return [word, fields[at + 1], chosen]


def read_chosen(field):
    """Return the chosen candidates that the field writes, or None if it writes none."""
    if field == "-":
        return ()
    names = field.split(",")
    if not is_rising(names) or not all([is_name(name) for name in names]):
        return None
    return tuple(names)


def program_of(nodes):
    """Return the program that has these nodes in preorder."""
    done = []
    for node in nodes[::-1]:
        inside = [done.pop() for _ in range(INSIDE[node[0]])]
        done.append(tuple(node + inside))
    return done[0]
