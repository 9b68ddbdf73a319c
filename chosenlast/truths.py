"""What is true in a world."""

from chosenlast.programs import questions_on
from chosenlast.records import first_false
from chosenlast.running import agrees


def rows_left(world):
    """Return the rows of the table in which all answers of all runs are true, ascending."""
    table = world.table_now()
    record = [triple for _, program, path, _ in world.runs_now() for triple in questions_on(program, path)]
    return tuple([row for row in table[1] if first_false(table, record, row) is None])


def as_if(world, row):
    """Return for each run whether it is as if on the row, a row of the table."""
    table = world.table_now()
    return tuple([agrees(table, row, program, path) for _, program, path, _ in world.runs_now()])
