"""Questions and their answers."""

from chosenlast.guards import require_pairs, require_question
from chosenlast.striking import alive_rows, dead_pairs
from chosenlast.tables import candidates_of


def answer_in(table, row, item, chosen):
    """Return the answer in the row."""
    require_question(table, item, chosen)
    if row[table[0].index(item)] in chosen:
        return "yes"
    return "no"


def struck_by(table, item, chosen, answer):
    """Return the pairs that the answer strikes, ascending."""
    require_question(table, item, chosen)
    if answer == "yes":
        return tuple([(item, name) for name in candidates_of(table, item) if name not in chosen])
    return tuple([(item, name) for name in candidates_of(table, item) if name in chosen])


def paid_by(table, struck, item, chosen, answer):
    """Return the pairs that the answer strikes and that are not dead yet, ascending."""
    require_question(table, item, chosen)
    require_pairs(table, struck)
    dead = dead_pairs(table, struck)
    return tuple([pair for pair in struck_by(table, item, chosen, answer) if pair not in dead])


def forced_answer(table, struck, item, chosen):
    """Return "none" if no row is alive, the answer if one is forced, otherwise "open"."""
    require_question(table, item, chosen)
    if alive_rows(table, struck) == ():
        return "none"
    for answer in ("yes", "no"):
        if paid_by(table, struck, item, chosen, answer) == ():
            return answer
    return "open"
