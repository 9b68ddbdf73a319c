"""The checker of programs."""

from chosenlast.errors import InvalidPaper
from chosenlast.kinds import are_names, is_name, is_rising
from chosenlast.programs import inner_programs, nodes_of
from chosenlast.tables import candidates_of


def lets_program(table, thing):
    """Return the number of nodes of a program of the table; raise InvalidPaper for any other value."""
    if not is_program_shape(thing):
        raise InvalidPaper("shape", -1)
    nodes = nodes_of(thing)
    for n in range(len(nodes)):
        if nodes[n][0] == "ask":
            check_question(table, nodes[n][1], nodes[n][2], n)
    return len(nodes)


def is_program_shape(thing):
    """Whether the value has the shape of a program."""
    waiting = [thing]
    while waiting:
        node = waiting.pop()
        if not is_node_shape(node):
            return False
        waiting.extend(inner_programs(node))
    return True


def is_node_shape(thing):
    """Whether the value has the shape of a program, whatever stands where the programs inside it should be."""
    if not isinstance(thing, tuple) or len(thing) == 0:
        return False
    if thing[0] == "stop":
        return len(thing) == 1
    if thing[0] == "say":
        return len(thing) == 3 and is_name(thing[1])
    return thing[0] == "ask" and len(thing) == 5 and is_name(thing[1]) and are_names(thing[2])


def check_question(table, item, chosen, n):
    """Raise InvalidPaper unless node n asks for an item of the table, with some of its candidates."""
    if item not in table[0]:
        raise InvalidPaper("item", n)
    candidates = candidates_of(table, item)
    if not is_rising(chosen) or not all([name in candidates for name in chosen]):
        raise InvalidPaper("chosen", n)
