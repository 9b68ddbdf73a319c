"""Replaying logs."""

from chosenlast.errors import InvalidPaper
from chosenlast.kinds import are_names, is_rising
from chosenlast.rowforms import is_row
from chosenlast.tablechecker import lets_table
from chosenlast.worlds import World


def is_log(thing):
    """Return whether the value is a tuple of ("world", table, offices) and rows that have a form."""
    if not isinstance(thing, tuple) or len(thing) == 0 or not is_opening(thing[0]):
        return False
    return all([is_row(thing[0][1], row) for row in thing[1:]])


def is_opening(thing):
    """Whether the value is "world", a table, and names of offices."""
    if not isinstance(thing, tuple) or len(thing) != 3 or thing[0] != "world" or not is_table(thing[1]):
        return False
    return are_names(thing[2]) and len(thing[2]) > 0 and is_rising(thing[2])


def is_table(thing):
    """Whether the value is a table."""
    try:
        lets_table(thing)
    except InvalidPaper:
        return False
    return True


def replayed(log):
    """Return a new world after all rows of the log; raise the first error."""
    _, table, offices = log[0]
    world = World(table, offices)
    world.do_all(log[1:])
    return world
