"""The checker of answer papers."""

from chosenlast.errors import InvalidPaper
from chosenlast.guards import require_pairs, require_question
from chosenlast.kinds import are_names, is_answer, is_pair
from chosenlast.questions import answer_at
from chosenlast.striking import alive_rows
from chosenlast.tables import pairs_in


def lets_answer(table, struck, item, chosen, thing):
    """Return the state of the question that the paper confirms; raise InvalidPaper for any other value."""
    require_question(table, item, chosen)
    require_pairs(table, struck)
    if has_forced_shape(thing):
        _, answer, row, reasons = thing
        check_alive(table, struck, item, chosen, row, answer, "row")
        check_many(table, reasons)
        check_forced_reasons(table, struck, item, chosen, answer, reasons)
        return answer
    if has_open_shape(thing):
        check_alive(table, struck, item, chosen, thing[1], "yes", "yes")
        check_alive(table, struck, item, chosen, thing[2], "no", "no")
        return "open"
    if has_none_shape(thing):
        check_many(table, thing[1])
        check_reasons(table, struck, thing[1])
        return "none"
    raise InvalidPaper("shape", -1)


def has_forced_shape(thing):
    """Whether the value is "forced", an answer, a tuple of names and reasons."""
    if not isinstance(thing, tuple) or len(thing) != 4 or thing[0] != "forced":
        return False
    return is_answer(thing[1]) and are_names(thing[2]) and are_reasons(thing[3])


def has_open_shape(thing):
    """Whether the value is "open" and two tuples of names."""
    if not isinstance(thing, tuple) or len(thing) != 3 or thing[0] != "open":
        return False
    return are_names(thing[1]) and are_names(thing[2])


def has_none_shape(thing):
    """Whether the value is "none" and reasons."""
    return isinstance(thing, tuple) and len(thing) == 2 and thing[0] == "none" and are_reasons(thing[1])


def are_reasons(thing):
    """Whether the value is a tuple of pairs and None, of any length."""
    return isinstance(thing, tuple) and all([reason is None or is_pair(reason) for reason in thing])


def check_alive(table, struck, item, chosen, row, answer, word):
    """Raise InvalidPaper with this word if it is not an alive row in which this is the answer."""
    if row not in alive_rows(table, struck) or answer_at(row, table[0].index(item), chosen) != answer:
        raise InvalidPaper(word, -1)


def check_many(table, reasons):
    """Raise InvalidPaper if there are not as many reasons as rows."""
    if len(reasons) != len(table[1]):
        raise InvalidPaper("many", -1)


def check_forced_reasons(table, struck, item, chosen, answer, reasons):
    """Raise InvalidPaper for the first reason that does not belong to its row in a "forced" paper."""
    place = table[0].index(item)
    for k in range(len(reasons)):
        row = table[1][k]
        if answer_at(row, place, chosen) == answer:
            fits = reasons[k] is None
        else:
            fits = is_reason(table, struck, row, reasons[k])
        if not fits:
            raise InvalidPaper("reason", k)


def check_reasons(table, struck, reasons):
    """Raise InvalidPaper for the first reason that is not a struck pair of its row."""
    for k in range(len(reasons)):
        if not is_reason(table, struck, table[1][k], reasons[k]):
            raise InvalidPaper("reason", k)


def is_reason(table, struck, row, reason):
    """Whether it is a struck pair that the row contains."""
    return reason in struck and reason in pairs_in(table, row)
