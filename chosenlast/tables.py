"""What a table contains."""

from chosenlast.errors import UnknownName


def candidates_of(table, item):
    """Return the candidates of the item, ascending; raise UnknownName for another item."""
    items, rows = table
    if item not in items:
        raise UnknownName(item)
    place = items.index(item)
    return tuple(sorted(set([row[place] for row in rows])))


def pairs_of(table):
    """Return the pairs of the table, ascending."""
    items, rows = table
    return tuple(sorted(set([(items[i], row[i]) for row in rows for i in range(len(items))])))


def pairs_in(table, row):
    """Return the pairs that the row contains, ascending."""
    return tuple(zip(table[0], row))
