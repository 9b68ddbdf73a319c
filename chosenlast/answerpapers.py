"""Papers that show the state of a question."""

from chosenlast.questions import answer_at, forced_answer
from chosenlast.striking import alive_rows
from chosenlast.tables import pairs_in


def answer_paper(table, struck, item, chosen):
    """Return a paper that shows the state of the question, given the struck pairs."""
    state = forced_answer(table, struck, item, chosen)
    if state == "none":
        return ("none", tuple([struck_pair_in(table, struck, row) for row in table[1]]))
    if state == "open":
        yes_row = alive_row_with(table, struck, item, chosen, "yes")
        return ("open", yes_row, alive_row_with(table, struck, item, chosen, "no"))
    place = table[0].index(item)
    reasons = []
    for row in table[1]:
        if answer_at(row, place, chosen) == state:
            reasons.append(None)
        else:
            reasons.append(struck_pair_in(table, struck, row))
    return ("forced", state, alive_row_with(table, struck, item, chosen, state), tuple(reasons))


def alive_row_with(table, struck, item, chosen, answer):
    """Return the first alive row in which this is the answer; there must be one."""
    place = table[0].index(item)
    return [row for row in alive_rows(table, struck) if answer_at(row, place, chosen) == answer][0]


def struck_pair_in(table, struck, row):
    """Return the first struck pair that the row contains; there must be one."""
    return [pair for pair in pairs_in(table, row) if pair in struck][0]
