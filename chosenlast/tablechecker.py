"""The checker of tables."""

from chosenlast.errors import InvalidPaper
from chosenlast.kinds import is_rising, is_table_shape


def lets_table(thing):
    """Return the number of rows of a table; raise InvalidPaper for any other value."""
    if not is_table_shape(thing):
        raise InvalidPaper("shape", -1)
    items, rows = thing
    if not items or not is_rising(items):
        raise InvalidPaper("items", -1)
    if not rows:
        raise InvalidPaper("rows", -1)
    check_rows(items, rows)
    check_candidates(items, rows)
    return len(rows)


def check_rows(items, rows):
    """Raise InvalidPaper for the first row that is too short, too long, or out of order."""
    for k in range(len(rows)):
        if len(rows[k]) != len(items):
            raise InvalidPaper("row", k)
        if k > 0 and not rows[k - 1] < rows[k]:
            raise InvalidPaper("rise", k)


def check_candidates(items, rows):
    """Raise InvalidPaper for the first item that has only one candidate."""
    for i in range(len(items)):
        if len(set([row[i] for row in rows])) < 2:
            raise InvalidPaper("one", i)
