"""Papers that show whether a program can reach an output."""

from chosenlast.guards import require_pairs
from chosenlast.matching import assignment_for, scopes_of
from chosenlast.paying import coins_for
from chosenlast.programs import paths_with
from chosenlast.reaching import lead, strikes_of
from chosenlast.tables import pairs_in


def reach_paper(table, struck, coins, program, output):
    """Return a paper that shows that the output can be reached with the coins, or that it cannot."""
    require_pairs(table, struck)
    reasons = []
    for path in paths_with(program, output):
        rows, paid = lead(table, struck, program, path)
        _, few = assignment_for(scopes_of(coins), paid)
        if rows == ():
            blocked = list(struck) + strikes_of(table, program, path)
            reasons.append(("none", tuple([first_blocked(table, row, blocked) for row in table[1]])))
        elif few is None:
            return ("can", path, coins_for(coins, paid))
        else:
            reasons.append(("few", few))
    return ("cannot", tuple(reasons))


def first_blocked(table, row, blocked):
    """Return the first pair of the row that is one of the blocked ones; there must be one."""
    return [pair for pair in pairs_in(table, row) if pair in blocked][0]
