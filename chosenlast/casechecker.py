"""The checker of cases."""

from chosenlast.cases import coins_with
from chosenlast.errors import InvalidPaper
from chosenlast.guards import require_pairs
from chosenlast.kinds import is_number, is_pair
from chosenlast.striking import is_struck
from chosenlast.tables import pairs_in


def lets_case(table, bank, scope, thing):
    """Return True for a case for this scope; raise InvalidPaper for any other value."""
    require_pairs(table, scope)
    if not has_case_shape(thing):
        raise InvalidPaper("shape", -1)
    reported, _, _, is_called, _ = bank
    if is_called:
        raise InvalidPaper("called", -1)
    check_elements(coins_with(bank, scope), thing)
    pairs = [pair for _, pair in thing]
    if rows_without(table, [*reported, *pairs]):
        raise InvalidPaper("break", -1)
    for k in range(len(pairs)):
        others = pairs[:k] + pairs[k + 1:]
        if not any([pairs[k] in pairs_in(table, row) for row in rows_without(table, [*reported, *others])]):
            raise InvalidPaper("needed", k)
    return True


def has_case_shape(thing):
    """Whether the value is a tuple of tuples of a number and a pair."""
    return isinstance(thing, tuple) and all([is_element(element) for element in thing])


def is_element(thing):
    """Whether the value is a tuple of a number and a pair."""
    return isinstance(thing, tuple) and len(thing) == 2 and is_number(thing[0]) and is_pair(thing[1])


def check_elements(coins, case):
    """Raise InvalidPaper unless the numbers ascend, and each coin pays for its pair, which no other one has."""
    scopes = {number: scope for number, scope in coins}
    for k in range(len(case)):
        number, pair = case[k]
        if k > 0 and number <= case[k - 1][0] or number not in scopes:
            raise InvalidPaper("number", k)
        if pair not in scopes[number]:
            raise InvalidPaper("scope", k)
        if pair in [other for _, other in case[:k]]:
            raise InvalidPaper("pair", k)


def rows_without(table, pairs):
    """Return the list of the rows that contain none of the pairs."""
    return [row for row in table[1] if not is_struck(table, row, pairs)]
