"""Papers that show whether coins are safe."""

from chosenlast.hitting import rows_to_hit
from chosenlast.matching import assignment_for, scopes_of
from chosenlast.safety import payment_that_hits
from chosenlast.striking import alive_rows


def safety_paper(table, struck, coins):
    """Return a paper that shows that the coins are safe, or that they are not."""
    rows = rows_to_hit(table, struck)
    scopes = scopes_of(coins)
    payment = payment_that_hits(rows, scopes)
    if payment is None:
        return ("safe", safe_node(rows, scopes, ()))
    pairs = tuple(sorted(payment))
    numbers = tuple([coins[payment[pair]][0] for pair in pairs])
    return ("unsafe", pairs, numbers, tuple([row_without(table, struck, pairs, pair) for pair in pairs]))


def row_without(table, struck, pairs, pair):
    """Return a row that is alive for the struck pairs and all of these pairs but one; there must be one."""
    others = [other for other in pairs if other != pair]
    return alive_rows(table, (*struck, *others))[0]


def safe_node(rows, scopes, way):
    """Return the node to which these pairs on the way lead; rows are those that they leave alive, as pairs.

    The coins are safe, and they can pay for the way; so a row is left.
    """
    living = sorted(set([other for row in rows for other in row]))
    few = {other: assignment_for(scopes, (*way, other))[1] for other in living}
    # A pair that can be paid needs a node of its own. A row with few of them keeps the paper small.
    _, chosen = min([(count_paid(few, row), row) for row in rows])
    branches = []
    for pair in chosen:
        if few[pair] is None:
            rest = [row for row in rows if pair not in row]
            branches.append(safe_node(rest, scopes, (*way, pair)))
        else:
            branches.append(("few", few[pair]))
    return (tuple([candidate for _, candidate in chosen]), tuple(branches))


def count_paid(few, row):
    """Return how many pairs of the row can be paid."""
    return len([pair for pair in row if few[pair] is None])
