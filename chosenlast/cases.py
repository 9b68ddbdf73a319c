"""Cases: why a bank refuses a scope."""

from chosenlast.guards import require_pairs
from chosenlast.hitting import rows_to_hit
from chosenlast.matching import scopes_of
from chosenlast.safety import payment_that_hits


def worst_case(table, bank, scope):
    """Return a case for this scope, or None if there is none."""
    require_pairs(table, scope)
    reported, _, _, is_called, _ = bank
    if is_called:
        return None
    coins = coins_with(bank, scope)
    payment = payment_that_hits(rows_to_hit(table, reported), scopes_of(coins))
    if payment is None:
        return None
    return tuple(sorted([(coins[payment[pair]][0], pair) for pair in payment]))


def coins_with(bank, scope):
    """Return the coins outside and a new coin with this scope."""
    outside, following = bank[1], bank[2]
    return (*outside, (following, scope))
