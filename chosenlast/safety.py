"""Coins with which no table can be broken, and the widest scope of one more coin."""

from chosenlast.hitting import first_missed, rows_to_hit, with_pair
from chosenlast.matching import assignment_with, scopes_of
from chosenlast.tables import pairs_of


def is_safe(table, struck, coins):
    """Return whether no distinct pairs that can be paid with the coins break the table."""
    return payment_that_hits(rows_to_hit(table, struck), scopes_of(coins)) is None


def widest_scope(table, struck, coins):
    """Return the pairs that the scope of one more coin may contain; None if the coins are unsafe."""
    rows = rows_to_hit(table, struck)
    scopes = scopes_of(coins)
    if payment_that_hits(rows, scopes) is not None:
        return None
    return tuple([pair for pair in pairs_of(table) if payment_that_hits(rows, [*scopes, (pair,)]) is None])


def payment_that_hits(rows, scopes):
    """Return an assignment of coins of these scopes to pairs that hit all rows, or None if there is none.

    Its pairs are as few as possible; so without any one of them, some row is missed.
    """
    # Other pairs are of no use. A row with few useful pairs leaves few ways to go on; it comes first.
    useful = [tuple([pair for pair in row if any([pair in scope for scope in scopes])]) for row in rows]
    useful = sorted(useful, key=len)
    tries = {(): {}}
    while tries:
        for pairs in tries:
            if first_missed(useful, pairs) is None:
                return tries[pairs]
        tries = longer_payments(useful, scopes, tries)
    return None


def longer_payments(rows, scopes, tries):
    """Return all payments that are longer by a pair of a row that was missed.

    Payments are a dict from scopes to assignments. Each set that hits all rows contains a pair of the row that was
    missed, and what is a part of pairs that can be paid can be paid; so no such set is lost.
    """
    longer = {}
    for pairs in tries:
        for pair in first_missed(rows, pairs):
            key = with_pair(pairs, pair)
            if key not in longer:
                assignment = assignment_with(scopes, tries[pairs], pair)
                if assignment is not None:
                    longer[key] = assignment
    return longer
