"""The written form of programs."""

from chosenlast.programs import nodes_of


def program_text(program):
    """Return the line of the program."""
    return " ".join([field for node in nodes_of(program) for field in node_fields(node)])


def node_fields(node):
    """Return the fields of a node without the programs inside it."""
    if node[0] == "stop":
        return ["stop"]
    if node[0] == "say":
        return ["say", node[1]]
    return ["ask", node[1], chosen_text(node[2])]


def chosen_text(chosen):
    """Return the written form of the chosen candidates."""
    if not chosen:
        return "-"
    return ",".join(chosen)
