"""The checker of fewest papers."""

from chosenlast.errors import InvalidPaper
from chosenlast.guards import require_pairs
from chosenlast.removing import left_with, others_than
from chosenlast.safetychecker import accepts_unsafe, has_unsafe_shape


def lets_fewest(table, struck, coins, coin, size, thing):
    """Return True for a fewest paper for this size; raise InvalidPaper for any other value."""
    require_pairs(table, struck)
    if not has_fewest_shape(thing):
        raise InvalidPaper("shape", -1)
    waiting = [(thing, ())]
    n = 0
    while waiting:
        (paper, branches), removed = waiting.pop()
        if not accepts_unsafe(table, struck, left_with(coins, removed, coin), paper):
            raise InvalidPaper("paper", n)
        numbers = numbers_to_remove(paper, coin, size, removed)
        if len(branches) != len(numbers):
            raise InvalidPaper("branches", n)
        inner = [(branches[k], (*removed, numbers[k])) for k in range(len(numbers))]
        waiting.extend(inner[::-1])
        n += 1
    return True


def has_fewest_shape(thing):
    """Whether the value is a node: an "unsafe" paper by its shape, and a tuple of nodes."""
    waiting = [thing]
    while waiting:
        node = waiting.pop()
        if not isinstance(node, tuple) or len(node) != 2:
            return False
        if not has_unsafe_shape(node[0]) or not isinstance(node[1], tuple):
            return False
        waiting.extend(node[1])
    return True


def numbers_to_remove(paper, coin, size, removed):
    """Return the numbers of the coins that are removed on the ways from a node with this paper, in order."""
    if len(removed) < size - 1:
        return others_than(paper[2], coin[0])
    return ()
