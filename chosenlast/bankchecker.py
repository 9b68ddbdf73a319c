"""The checker of banks."""

from chosenlast.errors import InvalidPaper
from chosenlast.kinds import are_coins, are_names, is_number, is_scope
from chosenlast.safety import is_safe
from chosenlast.striking import alive_rows
from chosenlast.tables import pairs_of


def lets_bank(table, thing):
    """Return True for a valid bank; raise InvalidPaper for any other value."""
    if not has_bank_shape(thing):
        raise InvalidPaper("shape", -1)
    reported, outside, following, _, row = thing
    known = pairs_of(table)
    check_known(known, reported)
    for k in range(len(outside)):
        check_scope(known, outside[k], k)
        if outside[k][0] >= following:
            raise InvalidPaper("number", k)
    if len(reported) + len(outside) > following:
        raise InvalidPaper("many", -1)
    if not is_safe(table, reported, outside):
        raise InvalidPaper("unsafe", -1)
    if row is not None and not can_be_chosen(table, thing, row):
        raise InvalidPaper("row", -1)
    return True


def has_bank_shape(thing):
    """Whether the value is a tuple of a scope, coins, a number, a bool, and None or a tuple of names."""
    if not isinstance(thing, tuple) or len(thing) != 5:
        return False
    reported, outside, following, is_called, row = thing
    if not is_scope(reported) or not are_coins(outside) or not is_number(following):
        return False
    return isinstance(is_called, bool) and (row is None or are_names(row))


def check_known(known, pairs):
    """Raise InvalidPaper for the first of the pairs that is not a known one."""
    for k in range(len(pairs)):
        if pairs[k] not in known:
            raise InvalidPaper("pair", k)


def check_scope(known, coin, k):
    """Raise InvalidPaper for the first pair in the scope of coin k that is not a known one."""
    _, scope = coin
    for j in range(len(scope)):
        if scope[j] not in known:
            raise InvalidPaper("scope", (k, j))


def can_be_chosen(table, bank, row):
    """Whether the bank has called, no coin is outside, and the row is alive for the reported pairs."""
    reported, outside, _, is_called, _ = bank
    return is_called and outside == () and row in alive_rows(table, reported)
