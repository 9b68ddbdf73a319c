"""Breaking a table: pairs break it if they hit, that is, if each alive row contains one of them."""

from chosenlast.striking import alive_rows
from chosenlast.tables import pairs_in


def rows_to_hit(table, struck):
    """Return the alive rows, each as the tuple of its pairs."""
    return [pairs_in(table, row) for row in alive_rows(table, struck)]


def first_missed(rows, pairs):
    """Return the first row that contains none of the pairs, or None if there is none."""
    for row in rows:
        if not any([pair in pairs for pair in row]):
            return row
    return None


def with_pair(pairs, pair):
    """Return these pairs and one more as a scope."""
    return tuple(sorted([*pairs, pair]))
