"""Questions and their answers."""

from chosenlast.guards import require_question
from chosenlast.striking import alive_rows, dead_pairs
from chosenlast.tables import candidates_of


def answer_in(table, row, item, chosen):
    """Return the answer in the row."""
    require_question(table, item, chosen)
    return answer_at(row, table[0].index(item), chosen)


def answer_at(row, place, chosen):
    """Return the answer in the row to a question about the item at this place."""
    if row[place] in chosen:
        return "yes"
    return "no"


def struck_by(table, item, chosen, answer):
    """Return the pairs that the answer strikes, ascending."""
    require_question(table, item, chosen)
    if answer == "yes":
        return tuple([(item, name) for name in candidates_of(table, item) if name not in chosen])
    return tuple([(item, name) for name in candidates_of(table, item) if name in chosen])


def paid_by(table, struck, item, chosen, answer):
    """Return the pairs that the answer strikes and that are not dead yet, ascending."""
    require_question(table, item, chosen)
    dead = dead_pairs(table, struck)
    return tuple([pair for pair in struck_by(table, item, chosen, answer) if pair not in dead])


def forced_answer(table, struck, item, chosen):
    """Return "none" if no row is alive, the answer if one is forced, otherwise "open"."""
    require_question(table, item, chosen)
    if alive_rows(table, struck) == ():
        return "none"
    for answer in ("yes", "no"):
        if paid_by(table, struck, item, chosen, answer) == ():
            return answer
    return "open"
