"""The errors that functions with a table raise before all else."""

from chosenlast.errors import UnknownName, UnknownPair
from chosenlast.tables import candidates_of, pairs_of


def require_question(table, item, chosen):
    """Raise UnknownName for the item, then for the first chosen name, that the table does not have."""
    candidates = candidates_of(table, item)
    for name in chosen:
        if name not in candidates:
            raise UnknownName(name)


def require_pairs(table, pairs):
    """Raise UnknownPair for the first of these pairs that is not a pair of the table."""
    known = pairs_of(table)
    for pair in pairs:
        if pair not in known:
            raise UnknownPair(pair)
