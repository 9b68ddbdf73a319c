"""The checker of record papers."""

from chosenlast.errors import InvalidPaper
from chosenlast.kinds import are_names
from chosenlast.paychecker import are_numbers
from chosenlast.records import first_false, is_true, require_record


def lets_record(table, record, thing):
    """Return the word of the paper; raise InvalidPaper for any other value."""
    require_record(table, record)
    if has_true_shape(thing):
        check_row(table, record, thing[1])
        return "true"
    if has_false_shape(thing):
        check_indices(table, record, thing[1])
        return "false"
    raise InvalidPaper("shape", -1)


def has_true_shape(thing):
    """Whether the value is "true" and a tuple of names."""
    return isinstance(thing, tuple) and len(thing) == 2 and thing[0] == "true" and are_names(thing[1])


def has_false_shape(thing):
    """Whether the value is "false" and a tuple of numbers."""
    return isinstance(thing, tuple) and len(thing) == 2 and thing[0] == "false" and are_numbers(thing[1])


def check_row(table, record, row):
    """Raise InvalidPaper unless it is a row of the table of which the record is true."""
    if row not in table[1]:
        raise InvalidPaper("row", -1)
    k = first_false(table, record, row)
    if k is not None:
        raise InvalidPaper("entry", k)


def check_indices(table, record, indices):
    """Raise InvalidPaper unless there is the index of a triple for each row that is false of it."""
    if len(indices) != len(table[1]):
        raise InvalidPaper("many", -1)
    for k in range(len(indices)):
        if indices[k] >= len(record) or is_true(table, record[indices[k]], table[1][k]):
            raise InvalidPaper("index", k)
