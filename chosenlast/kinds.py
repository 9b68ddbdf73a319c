"""Which kind a value is of. These functions take any value and know no table."""

LETTERS = "abcdefghijklmnopqrstuvwxyz"


def is_number(thing):
    """Whether the value is an int that is at least 0 and not a bool."""
    return isinstance(thing, int) and not isinstance(thing, bool) and thing >= 0


def is_name(thing):
    """Whether the value is a string of one to eight lowercase letters."""
    if not isinstance(thing, str) or not 1 <= len(thing) <= 8:
        return False
    return all([letter in LETTERS for letter in thing])


def are_names(thing):
    """Whether the value is a tuple of names, of any length."""
    return isinstance(thing, tuple) and all([is_name(name) for name in thing])


def is_rising(things):
    """Whether each of these values, which must be comparable, is greater than the one before it."""
    return all([things[k - 1] < things[k] for k in range(1, len(things))])


def is_pair(thing):
    """Whether the value is a tuple of two names."""
    return are_names(thing) and len(thing) == 2


def is_scope(thing):
    """Whether the value is an ascending tuple of pairs."""
    # The order is looked at last: only pairs are sure to be comparable.
    return isinstance(thing, tuple) and all([is_pair(pair) for pair in thing]) and is_rising(thing)


def is_coin(thing):
    """Whether the value is a tuple of a number and a scope."""
    return isinstance(thing, tuple) and len(thing) == 2 and is_number(thing[0]) and is_scope(thing[1])


def are_coins(thing):
    """Whether the value is an ascending tuple of coins with distinct numbers."""
    if not isinstance(thing, tuple) or not all([is_coin(coin) for coin in thing]):
        return False
    # Coins that ascend and have distinct numbers are coins whose numbers ascend.
    return is_rising([coin[0] for coin in thing])


def is_answer(thing):
    """Whether the value is "yes" or "no"."""
    return isinstance(thing, str) and thing in ("yes", "no")


def is_table_shape(thing):
    """Whether the value is a tuple of a tuple of names and a tuple of tuples of names."""
    if not isinstance(thing, tuple) or len(thing) != 2 or not are_names(thing[0]):
        return False
    return isinstance(thing[1], tuple) and all([are_names(row) for row in thing[1]])
