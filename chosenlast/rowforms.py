"""The forms of the rows that change a world."""

from chosenlast.errors import InvalidPaper
from chosenlast.kinds import are_names, is_answer, is_name, is_number, is_scope
from chosenlast.paychecker import are_numbers
from chosenlast.programchecker import lets_program

# What stands behind the word of a row, in order.
FORMS = {
    "issue": ("office", "scope"),
    "start": ("office", "program"),
    "answer": ("run", "answer", "numbers"),
    "pass": ("office", "other", "number"),
    "return": ("office", "number"),
    "narrow": ("office", "number", "scope"),
    "news": ("sender", "office"),
    "arrive": ("letter",),
    "call": (),
    "choose": ("row",),
}


def is_row(table, thing):
    """Whether the value has one of these forms, with a program of the table if there is one."""
    if not isinstance(thing, tuple) or len(thing) == 0 or not isinstance(thing[0], str) or thing[0] not in FORMS:
        return False
    parts = FORMS[thing[0]]
    if len(thing) != len(parts) + 1:
        return False
    return all([is_part(table, parts[k], thing[k + 1]) for k in range(len(parts))])


def is_part(table, part, thing):
    """Whether the value can stand as this part of a row."""
    if part in ("office", "other"):
        return is_name(thing)
    if part == "sender":
        return thing is None or is_name(thing)
    if part in ("run", "number", "letter"):
        return is_number(thing)
    if part == "answer":
        return is_answer(thing)
    if part == "numbers":
        return are_numbers(thing)
    if part == "scope":
        return is_scope(thing)
    if part == "row":
        return are_names(thing)
    return is_program(table, thing)


def is_program(table, thing):
    """Whether the value is a program of the table."""
    try:
        lets_program(table, thing)
    except InvalidPaper:
        return False
    return True
