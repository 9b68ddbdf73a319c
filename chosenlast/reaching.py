"""What a program can reach with coins."""

from chosenlast.guards import require_pairs
from chosenlast.matching import assignment_for, scopes_of
from chosenlast.programs import output_of, paths_of, paths_with, questions_on
from chosenlast.questions import answer_at, struck_by
from chosenlast.striking import alive_rows


def paid_on(table, struck, program, path):
    """Return the paid pairs of the path as a scope."""
    return lead(table, struck, program, path)[1]


def can_lead(table, struck, coins, program, path):
    """Return whether the path is consistent and its paid pairs can be paid with the coins."""
    rows, paid = lead(table, struck, program, path)
    return rows != () and assignment_for(scopes_of(coins), paid)[1] is None


def paths_open(table, struck, coins, program):
    """Return all open complete paths, ascending."""
    return tuple([path for path in paths_of(program) if can_lead(table, struck, coins, program, path)])


def outputs_open(table, struck, coins, program):
    """Return all open outputs, ascending."""
    return tuple(sorted(set([output_of(program, path) for path in paths_open(table, struck, coins, program)])))


def least_coins(table, struck, program, output):
    """Return the size of the smallest bill of the output, or None if it has no bill."""
    bills = bills_of(table, struck, program, output)
    if bills == ():
        return None
    return min([len(bill) for bill in bills])


def bills_of(table, struck, program, output):
    """Return all least bills of the output as an ascending tuple of scopes."""
    require_pairs(table, struck)
    leads = [lead(table, struck, program, path) for path in paths_with(program, output)]
    # Two consistent paths part at an open question, where each pays what would leave the other one no row. So no bill
    # contains another one (point 44): all of them are least ones.
    return tuple(sorted(set([paid for rows, paid in leads if rows != ()])))


def lead(table, struck, program, path):
    """Return (rows, paid): the rows that are alive at the end of the path, and the paid pairs of the path as a scope.

    A pair is dead if no row with it is alive; so an answer pays for its pairs in those alive rows that it strikes.
    """
    rows = alive_rows(table, struck)
    paid = []
    for item, chosen, answer in questions_on(program, path):
        place = table[0].index(item)
        paid.extend([(item, row[place]) for row in rows if answer_at(row, place, chosen) != answer])
        rows = tuple([row for row in rows if answer_at(row, place, chosen) == answer])
    return rows, tuple(sorted(set(paid)))


def strikes_of(table, program, path):
    """Return the list of all pairs that the answers of the path strike."""
    questions = questions_on(program, path)
    return [pair for item, chosen, answer in questions for pair in struck_by(table, item, chosen, answer)]
