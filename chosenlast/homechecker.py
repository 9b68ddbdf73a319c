"""The checker of home papers."""

from chosenlast.errors import InvalidPaper
from chosenlast.guards import require_pairs
from chosenlast.kinds import is_rising
from chosenlast.paychecker import are_numbers
from chosenlast.removing import left_with, others_than
from chosenlast.safetychecker import accepts_unsafe, check_safe, has_unsafe_shape, is_node


def lets_home(table, struck, coins, coin, thing):
    """Return how many coins come home; raise InvalidPaper if the value is no home paper."""
    require_pairs(table, struck)
    if not has_home_shape(thing):
        raise InvalidPaper("shape", -1)
    numbers, node, papers = thing
    check_known(coins, numbers)
    check_safe(table, struck, left_with(coins, numbers, coin), node)
    if len(papers) != len(numbers):
        raise InvalidPaper("papers", -1)
    for k in range(len(papers)):
        more = left_with(coins, others_than(numbers, numbers[k]), coin)
        if not accepts_unsafe(table, struck, more, papers[k]):
            raise InvalidPaper("paper", k)
    return len(numbers)


def has_home_shape(thing):
    """Whether the value is an ascending tuple of numbers, a node, and a tuple of "unsafe" papers by their shape."""
    if not isinstance(thing, tuple) or len(thing) != 3:
        return False
    numbers, node, papers = thing
    if not are_numbers(numbers) or not is_rising(numbers) or not is_node(node):
        return False
    return isinstance(papers, tuple) and all([has_unsafe_shape(paper) for paper in papers])


def check_known(coins, numbers):
    """Raise InvalidPaper for the first of these numbers that no coin has."""
    known = [coin[0] for coin in coins]
    for k in range(len(numbers)):
        if numbers[k] not in known:
            raise InvalidPaper("coin", k)
