"""Coins that must come home, so that another coin is safe."""

from chosenlast.hitting import rows_to_hit
from chosenlast.matching import scopes_of
from chosenlast.removing import left_with
from chosenlast.safety import payment_that_hits


def home_sets(table, struck, coins, coin):
    """Return all smallest tuples of numbers without which the coins and this coin are safe, ascending."""
    rows = rows_to_hit(table, struck)
    homes = []
    tries = [()]
    while tries:
        used = {numbers: numbers_used(rows, left_with(coins, numbers, coin)) for numbers in tries}
        homes.extend([numbers for numbers in tries if used[numbers] is None])
        tries = longer_tries([numbers for numbers in tries if used[numbers] is not None], used, coin[0])
        tries = [numbers for numbers in tries if not contains_one(numbers, homes)]
    return tuple(sorted(homes))


def fewest_home(table, struck, coins, coin):
    """Return the smallest size of a home set; None if there is none."""
    homes = home_sets(table, struck, coins, coin)
    if homes == ():
        return None
    return min([len(numbers) for numbers in homes])


def numbers_used(rows, coins):
    """Return the numbers of some coins that pay for pairs that hit all rows, or None if there are none."""
    payment = payment_that_hits(rows, scopes_of(coins))
    if payment is None:
        return None
    return [coins[payment[pair]][0] for pair in payment]


def longer_tries(tries, used, kept):
    """Return all tries that are longer by a number that was used, ascending; the number that is kept stays.

    Coins that break the table break it until one of them has come home; so no home set is lost.
    """
    longer = [tuple(sorted([*numbers, number])) for numbers in tries for number in used[numbers] if number != kept]
    return sorted(set(longer))


def contains_one(numbers, homes):
    """Whether the numbers contain one of the home sets."""
    return any([all([number in numbers for number in home]) for home in homes])
