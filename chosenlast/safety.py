"""Coins with which no table can be broken, and the widest scope of one more coin."""

from chosenlast.hitting import first_missed, rows_to_hit, with_pair
from chosenlast.matching import assignment_with, scopes_of
from chosenlast.tables import pairs_of


def is_safe(table, struck, coins):
    """Return whether no distinct pairs that can be paid with the coins break the table."""
    return not can_hit(rows_to_hit(table, struck), scopes_of(coins))


def widest_scope(table, struck, coins):
    """Return the pairs that the scope of one more coin may contain; None if the coins are unsafe."""
    rows = rows_to_hit(table, struck)
    scopes = scopes_of(coins)
    if can_hit(rows, scopes):
        return None
    return tuple([pair for pair in pairs_of(table) if not can_hit(rows, [*scopes, (pair,)])])


def can_hit(rows, scopes):
    """Whether pairs that can be paid with coins of these scopes hit all rows."""
    # Other pairs are of no use. A row with few useful pairs leaves few ways to go on; it comes first.
    useful = [tuple([pair for pair in row if any([pair in scope for scope in scopes])]) for row in rows]
    useful = sorted(useful, key=len)
    tries = {(): {}}
    while tries:
        if any([first_missed(useful, pairs) is None for pairs in tries]):
            return True
        tries = longer_payments(useful, scopes, tries)
    return False


def longer_payments(rows, scopes, tries):
    """Return all payments that are longer by a pair of a row that was missed.

    Payments are a dict from scopes to assignments. Each set that hits all rows contains a pair of the row that was
    missed, and what is a part of pairs that can be paid can be paid; so no such set is lost.
    """
    longer = {}
    for pairs in tries:
        for pair in first_missed(rows, pairs):
            key = with_pair(pairs, pair)
            if key not in longer:
                assignment = assignment_with(scopes, tries[pairs], pair)
                if assignment is not None:
                    longer[key] = assignment
    return longer
