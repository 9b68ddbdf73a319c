"""Coins that come home, so that another coin can be issued."""


def left_with(coins, numbers, coin):
    """Return the coins that are left without these numbers, together with one more coin, as coins."""
    left = [other for other in coins if other[0] not in numbers]
    return tuple(sorted([*left, coin]))


def others_than(numbers, number):
    """Return the numbers without this one."""
    return tuple([other for other in numbers if other != number])
