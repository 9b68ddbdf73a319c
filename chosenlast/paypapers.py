"""Papers that show whether pairs can be paid."""

from chosenlast.matching import assignment_for, scopes_of
from chosenlast.paying import coins_for


def pay_paper(coins, pairs):
    """Return a paper that shows that the pairs can be paid with the coins, or that they cannot."""
    _, few = assignment_for(scopes_of(coins), pairs)
    if few is not None:
        return ("few", few)
    return ("paid", coins_for(coins, pairs))
