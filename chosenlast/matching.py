"""Paying pairs with coins: each pair has a coin of its own, whose scope contains it.

Coins are given by their scopes and told apart by their places in that list. An assignment is a dict from pairs to
places, with distinct places.
"""


def scopes_of(coins):
    """Return the list of the scopes of the coins."""
    return [coin[1] for coin in coins]


def assignment_for(scopes, pairs):
    """Return (assignment, None) if all pairs can be paid, otherwise (None, few).

    few are some of the pairs, ascending: fewer coins than these pairs have a scope with one of them.
    """
    assignment = {}
    for pair in pairs:
        place, wishes, reached = search_coin(scopes, assignment, pair)
        if place is None:
            # Each coin for one of these pairs pays for one of them already, and the new one is left over.
            return None, tuple(sorted(reached))
        assignment = with_coin(assignment, wishes, place)
    return assignment, None


def assignment_with(scopes, assignment, pair):
    """Return an assignment for the pairs that have a coin and this one, or None if they cannot be paid together."""
    place, wishes, _ = search_coin(scopes, assignment, pair)
    if place is None:
        return None
    return with_coin(assignment, wishes, place)


def with_coin(assignment, wishes, place):
    """Return the assignment after the free coin at this place was taken, and others were exchanged for it."""
    wider = {pair: assignment[pair] for pair in assignment}
    while place is not None:
        # The pair that wishes a coin takes it, and frees its own for the pair that wishes that one.
        taker = wishes[place]
        freed = wider.get(taker)
        wider[taker] = place
        place = freed
    return wider


def search_coin(scopes, assignment, pair):
    """Search a coin for the pair that is free, or becomes free when other pairs exchange their coins.

    Return its place or None, a dict that tells for each place that was met which pair wishes that coin, and the list
    of these pairs.
    """
    payer = {assignment[other]: other for other in assignment}
    wishes = {}
    reached = [pair]
    at = 0
    while at < len(reached):
        for place in range(len(scopes)):
            if place not in wishes and reached[at] in scopes[place]:
                wishes[place] = reached[at]
                if place not in payer:
                    return place, wishes, reached
                reached.append(payer[place])
        at += 1
    return None, wishes, reached
