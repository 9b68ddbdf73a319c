"""The steps of a bank.

A bank is a tuple (reported, outside, next, is_called, row): the reported pairs, the coins outside, the number of the
next coin, whether it has called, and the row that it has chosen, or None.
"""

from chosenlast.errors import InvalidStep
from chosenlast.guards import require_pairs
from chosenlast.safety import is_safe
from chosenlast.striking import alive_rows


def first_bank():
    """Return the bank at first."""
    return ((), (), 0, False, None)


def issue(table, bank, scope):
    """Return (bank, coin) after a new coin with this scope was issued."""
    require_pairs(table, scope)
    reported, outside, number, is_called, row = bank
    if is_called:
        raise InvalidStep("issue", "called")
    coin = (number, scope)
    if not is_safe(table, reported, (*outside, coin)):
        raise InvalidStep("issue", "unsafe")
    return (reported, (*outside, coin), number + 1, is_called, row), coin


def report(table, bank, number, pair):
    """Return the bank after the report that this coin was used for the pair."""
    coin = coin_outside(bank, number, "report")
    if pair not in coin[1]:
        raise InvalidStep("report", "scope")
    reported, outside, following, is_called, row = without_coin(bank, coin)
    return (tuple(sorted(set([*reported, pair]))), outside, following, is_called, row)


def take_back(bank, number):
    """Return the bank after this coin was returned."""
    return without_coin(bank, coin_outside(bank, number, "take_back"))


def call(bank):
    """Return the bank after its call."""
    reported, outside, following, is_called, row = bank
    if is_called:
        raise InvalidStep("call", "called")
    return (reported, outside, following, True, row)


def choose(table, bank, row):
    """Return the bank with this row as the chosen one."""
    reported, outside, following, is_called, chosen = bank
    if not is_called:
        raise InvalidStep("choose", "open")
    if outside != ():
        raise InvalidStep("choose", "outside")
    if chosen is not None:
        raise InvalidStep("choose", "chosen")
    if row not in alive_rows(table, reported):
        raise InvalidStep("choose", "row")
    return (reported, outside, following, is_called, row)


def coin_outside(bank, number, step):
    """Return the coin outside with this number; raise InvalidStep for this step if there is none."""
    for coin in bank[1]:
        if coin[0] == number:
            return coin
    raise InvalidStep(step, "coin")


def without_coin(bank, coin):
    """Return the bank without this coin outside."""
    reported, outside, following, is_called, row = bank
    return (reported, tuple([other for other in outside if other != coin]), following, is_called, row)
