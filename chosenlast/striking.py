"""What struck pairs leave of a table."""

from chosenlast.guards import require_pairs
from chosenlast.tables import pairs_in, pairs_of


def alive_rows(table, struck):
    """Return the rows that contain no struck pair, ascending."""
    require_pairs(table, struck)
    return tuple([row for row in table[1] if not is_struck(table, row, struck)])


def is_struck(table, row, struck):
    """Whether the row contains one of the struck pairs."""
    return any([pair in struck for pair in pairs_in(table, row)])


def dead_pairs(table, struck):
    """Return the pairs of the table that no alive row contains, ascending."""
    living = [pair for row in alive_rows(table, struck) for pair in pairs_in(table, row)]
    return tuple([pair for pair in pairs_of(table) if pair not in living])


def does_break(table, struck, pairs):
    """Return whether no row is alive for the struck pairs and these pairs together."""
    return alive_rows(table, (*struck, *pairs)) == ()
