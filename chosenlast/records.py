"""Records: answers that were given, as a tuple of (item, chosen, answer)."""

from chosenlast.guards import require_question
from chosenlast.questions import answer_at


def true_rows(table, record):
    """Return the rows of which the record is true, ascending."""
    require_record(table, record)
    return tuple([row for row in table[1] if first_false(table, record, row) is None])


def require_record(table, record):
    """Raise UnknownName for the first name of the record that the table does not have."""
    for item, chosen, _ in record:
        require_question(table, item, chosen)


def first_false(table, record, row):
    """Return the index of the first triple that is false of the row, or None if there is none."""
    for k in range(len(record)):
        if not is_true(table, record[k], row):
            return k
    return None


def is_true(table, triple, row):
    """Whether the answer of the triple is the answer in the row."""
    item, chosen, answer = triple
    return answer_at(row, table[0].index(item), chosen) == answer
