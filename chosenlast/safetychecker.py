"""The checker of safety papers."""

from chosenlast.errors import InvalidPaper
from chosenlast.guards import require_pairs
from chosenlast.kinds import are_names, is_scope
from chosenlast.paychecker import are_numbers, are_too_few, check_numbers, has_few_shape
from chosenlast.striking import does_break, is_struck
from chosenlast.tables import pairs_in, pairs_of


def lets_safety(table, struck, coins, thing):
    """Return the word of the paper; raise InvalidPaper for any other value."""
    require_pairs(table, struck)
    if has_unsafe_shape(thing):
        check_unsafe(table, struck, coins, thing)
        return "unsafe"
    if has_safe_shape(thing):
        check_safe(table, struck, coins, thing[1])
        return "safe"
    raise InvalidPaper("shape", -1)


def has_unsafe_shape(thing):
    """Whether the value is "unsafe", a scope of any pairs, a tuple of numbers and a tuple of tuples of names."""
    if not isinstance(thing, tuple) or len(thing) != 4 or thing[0] != "unsafe":
        return False
    _, pairs, numbers, rows = thing
    if not is_scope(pairs) or not are_numbers(numbers):
        return False
    return isinstance(rows, tuple) and all([are_names(row) for row in rows])


def has_safe_shape(thing):
    """Whether the value is "safe" and a node."""
    return isinstance(thing, tuple) and len(thing) == 2 and thing[0] == "safe" and is_node(thing[1])


def is_node(thing):
    """Whether the value is a tuple of names and a tuple of branches: nodes, and "few" with a scope of any pairs."""
    waiting = [thing]
    while waiting:
        node = waiting.pop()
        if not isinstance(node, tuple) or len(node) != 2 or not are_names(node[0]) or not isinstance(node[1], tuple):
            return False
        waiting.extend([branch for branch in node[1] if not has_few_shape(branch)])
    return True


def accepts_unsafe(table, struck, coins, paper):
    """Whether a value that has the shape of an "unsafe" paper is one."""
    try:
        check_unsafe(table, struck, coins, paper)
    except InvalidPaper:
        return False
    return True


def check_unsafe(table, struck, coins, paper):
    """Raise InvalidPaper unless the pairs break the table, the coins pay for them, and each of them is needed."""
    _, pairs, numbers, rows = paper
    known = pairs_of(table)
    for k in range(len(pairs)):
        if pairs[k] not in known:
            raise InvalidPaper("pair", k)
    if not does_break(table, struck, pairs):
        raise InvalidPaper("breaks", -1)
    check_numbers(coins, pairs, numbers)
    if len(rows) != len(pairs):
        raise InvalidPaper("rows", -1)
    for k in range(len(rows)):
        others = [pair for pair in pairs if pair != pairs[k]]
        if not is_alive(table, (*struck, *others), rows[k]) or pairs[k] not in pairs_in(table, rows[k]):
            raise InvalidPaper("row", k)


def is_alive(table, struck, row):
    """Whether it is a row of the table that contains no struck pair."""
    return row in table[1] and not is_struck(table, row, struck)


def check_safe(table, struck, coins, top):
    """Raise InvalidPaper unless each node, in preorder, shows a row that the coins cannot strike on its way."""
    waiting = [(top, ())]
    n = 0
    while waiting:
        node, way = waiting.pop()
        inner = check_node(table, struck, coins, node, way, n)
        waiting.extend(inner[::-1])
        n += 1


def check_node(table, struck, coins, node, way, n):
    """Raise InvalidPaper for a fault of node n; return the nodes directly inside it, each with its pairs on the way."""
    row, branches = node
    if not is_alive(table, (*struck, *way), row):
        raise InvalidPaper("row", n)
    if len(branches) != len(table[0]):
        raise InvalidPaper("branches", n)
    inner = []
    for b in range(len(branches)):
        longer = (*way, pairs_in(table, row)[b])
        if not has_few_shape(branches[b]):
            inner.append((branches[b], longer))
        elif not are_few_on_way(coins, longer, branches[b][1]):
            raise InvalidPaper("few", (n, b))
    return inner


def are_few_on_way(coins, way, some):
    """Whether these are some of the pairs on the way, and too few coins are for them."""
    return all([pair in way for pair in some]) and are_too_few(coins, some)
