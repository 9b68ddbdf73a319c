"""The checker of reach papers."""

from chosenlast.errors import InvalidPaper
from chosenlast.guards import require_pairs
from chosenlast.kinds import is_answer, is_pair, is_rising
from chosenlast.paychecker import are_numbers, are_too_few, check_numbers
from chosenlast.programs import is_path, next_question, output_of, paths_with
from chosenlast.reaching import lead, strikes_of
from chosenlast.tables import pairs_in


def lets_reach(table, struck, coins, program, output, thing):
    """Return the word of the paper; raise InvalidPaper for any other value."""
    require_pairs(table, struck)
    if has_can_shape(thing):
        check_can(table, struck, coins, program, output, thing)
        return "can"
    if has_cannot_shape(thing):
        check_cannot(table, struck, coins, program, output, thing[1])
        return "cannot"
    raise InvalidPaper("shape", -1)


def has_can_shape(thing):
    """Whether the value is "can", a tuple of answers and a tuple of numbers."""
    if not isinstance(thing, tuple) or len(thing) != 3 or thing[0] != "can" or not isinstance(thing[1], tuple):
        return False
    return all([is_answer(answer) for answer in thing[1]]) and are_numbers(thing[2])


def has_cannot_shape(thing):
    """Whether the value is "cannot" and a tuple of reasons by their shape."""
    if not isinstance(thing, tuple) or len(thing) != 2 or thing[0] != "cannot" or not isinstance(thing[1], tuple):
        return False
    return all([is_reason_shape(reason) for reason in thing[1]])


def is_reason_shape(thing):
    """Whether the value is "few" or "none", and a tuple of pairs of names."""
    if not isinstance(thing, tuple) or len(thing) != 2 or thing[0] not in ("few", "none"):
        return False
    return isinstance(thing[1], tuple) and all([is_pair(pair) for pair in thing[1]])


def check_can(table, struck, coins, program, output, paper):
    """Raise InvalidPaper unless the path is complete and consistent, has this output, and the coins pay for it."""
    _, path, numbers = paper
    if not is_path(program, path) or next_question(program, path) is not None:
        raise InvalidPaper("path", -1)
    if output_of(program, path) != output:
        raise InvalidPaper("output", -1)
    rows, paid = lead(table, struck, program, path)
    if rows == ():
        raise InvalidPaper("consistent", -1)
    check_numbers(coins, paid, numbers)


def check_cannot(table, struck, coins, program, output, reasons):
    """Raise InvalidPaper unless each complete path with this output has a reason why it is not open."""
    paths = paths_with(program, output)
    if len(reasons) != len(paths):
        raise InvalidPaper("many", -1)
    for r in range(len(reasons)):
        word, pairs = reasons[r]
        if word == "few":
            check_few(coins, lead(table, struck, program, paths[r])[1], pairs, r)
        else:
            check_none(table, list(struck) + strikes_of(table, program, paths[r]), pairs, r)


def check_few(coins, paid, some, r):
    """Raise InvalidPaper unless these are some of the paid pairs, ascending, and too few coins are for them."""
    if not is_rising(some) or not all([pair in paid for pair in some]):
        raise InvalidPaper("some", r)
    if not are_too_few(coins, some):
        raise InvalidPaper("few", r)


def check_none(table, blocked, pairs, r):
    """Raise InvalidPaper unless these are blocked pairs of the rows, one for each row."""
    if len(pairs) != len(table[1]):
        raise InvalidPaper("rows", r)
    for k in range(len(pairs)):
        if pairs[k] not in pairs_in(table, table[1][k]) or pairs[k] not in blocked:
            raise InvalidPaper("row", (r, k))
