"""The smallest sets of pairs that break a table."""

from chosenlast.hitting import first_missed, rows_to_hit, with_pair


def breaking_number(table, struck):
    """Return the smallest size of a set of pairs that breaks the table; 0 if no row is alive."""
    return len(least_breakings(table, struck)[0])


def least_breakings(table, struck):
    """Return all sets of the smallest size that break the table, as an ascending tuple of scopes."""
    rows = rows_to_hit(table, struck)
    tries = [()]
    breakings = those_that_hit(rows, tries)
    while not breakings:
        tries = longer_tries(rows, tries)
        breakings = those_that_hit(rows, tries)
    return tuple(breakings)


def those_that_hit(rows, tries):
    """Return those of the tries that hit all rows."""
    return [pairs for pairs in tries if first_missed(rows, pairs) is None]


def longer_tries(rows, tries):
    """Return all tries that are longer by a pair of a row that was missed, ascending.

    Each set that breaks the table contains a pair of every alive row; so none of the least ones is lost.
    """
    longer = [with_pair(pairs, pair) for pairs in tries for pair in first_missed(rows, pairs)]
    return sorted(set(longer))
