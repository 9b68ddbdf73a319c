"""Paying pairs with coins."""

from chosenlast.matching import assignment_for, scopes_of


def coins_for(coins, pairs):
    """Return the numbers of distinct coins, one for each pair in order; None if the pairs cannot be paid."""
    assignment, _ = assignment_for(scopes_of(coins), pairs)
    if assignment is None:
        return None
    return tuple([coins[assignment[pair]][0] for pair in pairs])
