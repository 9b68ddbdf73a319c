"""The checker of offices."""

from chosenlast.bankchecker import check_known, check_scope
from chosenlast.errors import InvalidPaper
from chosenlast.kinds import are_coins, is_scope
from chosenlast.safety import is_safe
from chosenlast.tables import pairs_of


def lets_office(table, thing):
    """Return True for a valid office; raise InvalidPaper for any other value."""
    if not has_office_shape(thing):
        raise InvalidPaper("shape", -1)
    struck, coins, is_called = thing
    known = pairs_of(table)
    check_known(known, struck)
    for k in range(len(coins)):
        check_scope(known, coins[k], k)
    if is_called and coins != ():
        raise InvalidPaper("called", -1)
    if not is_safe(table, struck, coins):
        raise InvalidPaper("unsafe", -1)
    return True


def has_office_shape(thing):
    """Whether the value is a tuple of a scope, coins and a bool."""
    if not isinstance(thing, tuple) or len(thing) != 3:
        return False
    struck, coins, is_called = thing
    return is_scope(struck) and are_coins(coins) and isinstance(is_called, bool)
