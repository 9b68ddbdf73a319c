"""Papers that show whether a record is true of some row."""

from chosenlast.records import first_false, true_rows


def record_paper(table, record):
    """Return a paper that shows a row of which the record is true, or that it is false of each row."""
    rows = true_rows(table, record)
    if rows != ():
        return ("true", rows[0])
    return ("false", tuple([first_false(table, record, row) for row in table[1]]))
