"""The written form of programs."""

from chosenlast.programs import nodes_of
from chosenlast.tabletexts import joined


def program_text(program):
    """Return the line of the program."""
    return " ".join([field for node in nodes_of(program) for field in node_fields(node)])


def node_fields(node):
    """Return the fields of a node without the programs inside it."""
    if node[0] == "stop":
        return ["stop"]
    if node[0] == "say":
        return ["say", node[1]]
    return ["ask", node[1], joined(node[2])]
