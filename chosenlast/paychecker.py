"""The checker of pay papers."""

from chosenlast.errors import InvalidPaper
from chosenlast.kinds import is_number, is_scope


def lets_pay(coins, pairs, thing):
    """Return the word of the paper; raise InvalidPaper for any other value."""
    if has_paid_shape(thing):
        check_numbers(coins, pairs, thing[1])
        return "paid"
    if has_few_shape(thing):
        check_some(coins, pairs, thing[1])
        return "few"
    raise InvalidPaper("shape", -1)


def has_paid_shape(thing):
    """Whether the value is "paid" and a tuple of numbers."""
    return isinstance(thing, tuple) and len(thing) == 2 and thing[0] == "paid" and are_numbers(thing[1])


def are_numbers(thing):
    """Whether the value is a tuple of numbers, of any length."""
    return isinstance(thing, tuple) and all([is_number(number) for number in thing])


def has_few_shape(thing):
    """Whether the value is "few" and a scope of any pairs."""
    return isinstance(thing, tuple) and len(thing) == 2 and thing[0] == "few" and is_scope(thing[1])


def check_numbers(coins, pairs, numbers):
    """Raise InvalidPaper unless these are the numbers of distinct coins that pay for the pairs in order."""
    if len(numbers) != len(pairs):
        raise InvalidPaper("many", -1)
    scopes = {number: scope for number, scope in coins}
    for k in range(len(numbers)):
        if numbers[k] not in scopes or numbers[k] in numbers[:k] or pairs[k] not in scopes[numbers[k]]:
            raise InvalidPaper("coin", k)


def check_some(coins, pairs, some):
    """Raise InvalidPaper unless these are some of the pairs, and too few coins are for them."""
    for k in range(len(some)):
        if some[k] not in pairs:
            raise InvalidPaper("pair", k)
    if not are_too_few(coins, some):
        raise InvalidPaper("enough", -1)


def are_too_few(coins, some):
    """Whether fewer coins than these pairs have a scope that contains at least one of them."""
    useful = [coin for coin in coins if any([pair in coin[1] for pair in some])]
    return len(useful) < len(some)
