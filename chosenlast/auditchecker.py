"""The checker of audit papers."""

from chosenlast.auditpapers import strikes_on
from chosenlast.errors import InvalidPaper
from chosenlast.kinds import are_names, is_scope
from chosenlast.tables import pairs_in


def lets_audit(world, thing):
    """Return the number of all answers of all runs; raise InvalidPaper if the value is no audit paper."""
    if not has_audit_shape(thing):
        raise InvalidPaper("shape", -1)
    row, strikes = thing
    table = world.table_now()
    chosen = world.bank_now()[4]
    runs = world.runs_now()
    if row not in table[1]:
        raise InvalidPaper("row", -1)
    if chosen is not None and chosen != row:
        raise InvalidPaper("choice", -1)
    if len(strikes) != len(runs):
        raise InvalidPaper("runs", -1)
    for r in range(len(runs)):
        _, program, path, _ = runs[r]
        check_run(strikes_on(table, program, path), pairs_in(table, row), strikes[r], r)
    return sum([len(scopes) for scopes in strikes])


def has_audit_shape(thing):
    """Whether the value is a pair of a tuple of names and a tuple of tuples of scopes."""
    if not isinstance(thing, tuple) or len(thing) != 2 or not are_names(thing[0]):
        return False
    return isinstance(thing[1], tuple) and all([are_scopes(scopes) for scopes in thing[1]])


def are_scopes(thing):
    """Whether the value is a tuple of scopes."""
    return isinstance(thing, tuple) and all([is_scope(scope) for scope in thing])


def check_run(expected, contained, scopes, r):
    """Raise InvalidPaper unless the scopes are what the answers of run r strike, without a pair of the row."""
    if len(scopes) != len(expected):
        raise InvalidPaper("answers", r)
    for k in range(len(scopes)):
        if scopes[k] != expected[k]:
            raise InvalidPaper("struck", (r, k))
        if any([pair in contained for pair in scopes[k]]):
            raise InvalidPaper("holds", (r, k))
