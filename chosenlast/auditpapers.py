"""Papers that show a row in which all answers of a world are true."""

from chosenlast.programs import questions_on
from chosenlast.questions import struck_by
from chosenlast.truths import rows_left


def audit_paper(world):
    """Return a paper with a row that is left, the chosen one if there is one, and what each answer strikes."""
    row = world.bank_now()[4]
    if row is None:
        row = rows_left(world)[0]
    return (row, tuple([strikes_on(world.table_now(), program, path) for _, program, path, _ in world.runs_now()]))


def strikes_on(table, program, path):
    """Return the pairs that each answer of the path strikes, a scope for each answer."""
    return tuple([struck_by(table, item, chosen, answer) for item, chosen, answer in questions_on(program, path)])
