"""The steps of an office.

An office is a tuple (struck, coins, is_called): its struck pairs, the coins that it holds, and whether it was called.
"""

from chosenlast.errors import InvalidStep
from chosenlast.matching import assignment_for, scopes_of
from chosenlast.questions import paid_by, struck_by
from chosenlast.striking import does_break


def first_office():
    """Return the office at first."""
    return ((), (), False)


def take(office, coin):
    """Return the office after it took the coin."""
    _, coins, is_called = office
    if is_called:
        raise InvalidStep("take", "called")
    if coin[0] in [number for number, _ in coins]:
        raise InvalidStep("take", "coin")
    return with_coin(office, coin)


def give(office, number):
    """Return (office, coin): the office without the coin with this number, and the coin."""
    coin = coin_held(office, number, "give")
    return without_coins(office, (number,)), coin


def narrow(office, number, scope):
    """Return the office in which the coin with this number has this scope."""
    _, wider = coin_held(office, number, "narrow")
    if not all([pair in wider for pair in scope]):
        raise InvalidStep("narrow", "scope")
    return with_coin(without_coins(office, (number,)), (number, scope))


def hear(office, pairs):
    """Return the office to which these pairs were added as struck pairs."""
    struck, coins, is_called = office
    return (tuple(sorted(set([*struck, *pairs]))), coins, is_called)


def be_called(office):
    """Return (office, coins): the office after its call, and the coins that it held."""
    struck, coins, is_called = office
    if is_called:
        raise InvalidStep("be_called", "called")
    return (struck, (), True), coins


def answer_with(table, office, item, chosen, answer, numbers):
    """Return (office, reports) after the office gave the answer and paid for it with the coins with these numbers."""
    struck, _, is_called = office
    strikes = struck_by(table, item, chosen, answer)
    paid = paid_by(table, struck, item, chosen, answer)
    if does_break(table, struck, strikes):
        raise InvalidStep("answer_with", "none")
    if is_called and paid != ():
        raise InvalidStep("answer_with", "called")
    if len(numbers) != len(paid):
        raise InvalidStep("answer_with", "many")
    for k in range(len(paid)):
        _, scope = coin_held(office, numbers[k], "answer_with")
        if numbers[k] in numbers[:k] or paid[k] not in scope:
            raise InvalidStep("answer_with", "coin")
    return hear(without_coins(office, numbers), strikes), tuple(zip(numbers, paid))


def answers_open(table, office, item, chosen):
    """Return the answers that the office can give, ascending."""
    return tuple([answer for answer in ("no", "yes") if can_answer(table, office, item, chosen, answer)])


def can_answer(table, office, item, chosen, answer):
    """Whether some row would be alive after the answer, and the coins of the office can pay for it."""
    struck, coins, _ = office
    if does_break(table, struck, struck_by(table, item, chosen, answer)):
        return False
    return assignment_for(scopes_of(coins), paid_by(table, struck, item, chosen, answer))[1] is None


def coin_held(office, number, step):
    """Return the coin with this number that the office holds; raise InvalidStep for this step if there is none."""
    for coin in office[1]:
        if coin[0] == number:
            return coin
    raise InvalidStep(step, "coin")


def with_coin(office, coin):
    """Return the office with one more coin."""
    struck, coins, is_called = office
    return (struck, tuple(sorted([*coins, coin])), is_called)


def without_coins(office, numbers):
    """Return the office without the coins with these numbers."""
    struck, coins, is_called = office
    return (struck, tuple([coin for coin in coins if coin[0] not in numbers]), is_called)
